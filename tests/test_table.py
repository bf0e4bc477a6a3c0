"""[B3]: each row of the table, when the deed can be done, and what is done."""

import itertools
import unittest

from doubtbooks.moving import after, deed_error, led
from tests.helping import DONE, ENDS, STRENGTHS, THANKS, THIN, UNDONE, VOTES, same


def manner(prepared="none", committed="none", aborted="none", thanks=(), presumed="abort", sent=False):
    return (prepared, committed, aborted, thanks, presumed, sent)


def log_of(row, strength):
    """What was an empty log, and how much of it is sure, behind writing the row with this strength."""
    return {"none": ((), 0), "lazy": ((row,), 0), "forced": ((row,), 1)}[strength]


class TableCase(unittest.TestCase):

    def check(self, protocol, deeds, coordinator, participants, letters, told):
        """The last deed can be done behind the others, and this stands behind it."""
        wanted = (coordinator, participants, tuple(sorted(letters)), told)
        self.assertTrue(same(led(protocol, deeds), wanted), (deeds, led(protocol, deeds), wanted))

    def can(self, protocol, deeds, deed):
        self.assertIsNone(deed_error(protocol, led(protocol, deeds), deed), (deeds, deed))

    def cannot(self, protocol, deeds, deed):
        self.assertEqual(deed_error(protocol, led(protocol, deeds), deed), "closed", (deeds, deed))


class BeginTest(TableCase):

    def test_what_is_done(self):
        for begun in STRENGTHS:
            for many in (1, 2, 6):
                protocol = ((begun, "forced", "forced"), (UNDONE, DONE) * 3)
                protocol = (protocol[0], protocol[1][:many])
                log, sure = log_of("begun", begun)
                self.check(protocol, (("begin",),), ("voting", log, sure, ()), (("active", (), 0),) * many,
                           [(i, "prepare") for i in range(many)], ())

    def test_what_was_lost_before_stays(self):
        protocol = (THIN, (UNDONE, manner(sent=True)))
        self.check(protocol, (("fall", 0, 0), ("fall", 1, 0), ("begin",)), ("voting", (), 0, ()),
                   (("blank", (), 0), ("blank", (), 0)), [(0, "prepare"), (1, "prepare")], ("abort",))

    def test_once(self):
        protocol = (THIN, (UNDONE, UNDONE))
        self.can(protocol, (), ("begin",))
        for deeds in ((("begin",),), (("begin",), ("quit",)), (("begin",), ("stop", 0)), VOTES):
            self.cannot(protocol, deeds, ("begin",))
        aborting = (THIN, (DONE,))
        self.cannot(aborting, (("begin",), ("quit",)), ("begin",))


class VoteTest(TableCase):

    def test_yes(self):
        for strength in STRENGTHS:
            protocol = (THIN, (UNDONE, manner(prepared=strength)))
            log, sure = log_of("prepared", strength)
            self.check(protocol, (("begin",), ("yes", 1)), ("voting", (), 0, ()),
                       (("active", (), 0), ("prepared", log, sure)), [(0, "prepare"), (1, "prepare"), (1, "yes")], ())

    def test_no(self):
        protocol = (THIN, (UNDONE, DONE))
        for i in (0, 1):
            participants = [("active", (), 0)] * 2
            participants[i] = ("aborted", (), 0)
            self.check(protocol, (("begin",), ("no", i)), ("voting", (), 0, ()), tuple(participants),
                       [(0, "prepare"), (1, "prepare"), (i, "no")], ("abort",))

    def test_read(self):
        protocol = (THIN, (UNDONE, manner("forced", sent=True)))
        for i in (0, 1):
            participants = [("active", (), 0)] * 2
            participants[i] = ("out", (), 0)
            self.check(protocol, (("begin",), ("read", i)), ("voting", (), 0, ()), tuple(participants),
                       [(0, "prepare"), (1, "prepare"), (i, "yes")], ())

    def test_when(self):
        protocol = (THIN, (UNDONE, manner(sent=True)))
        behind_votes = [(("begin",), (word, 1)) for word in ("yes", "no", "read")]
        for word in ("yes", "no", "read"):
            self.cannot(protocol, (), (word, 1))
            self.can(protocol, (("begin",),), (word, 1))
            self.can(protocol, (("begin",), ("fall", 0, 0)), (word, 1))
            self.can(protocol, (("begin",), ("no", 0)), (word, 1))
            self.can(protocol, (("begin",), ("quit",)), (word, 1))
            self.can(protocol, (("begin",), ("stop", 0)), (word, 1))
            self.cannot(protocol, (("begin",), ("fall", 1, 0)), (word, 1))
            self.cannot(protocol, (("begin",), ("quit",), ("hear", 1, "abort")), (word, 1))
            for deeds in behind_votes:
                self.cannot(protocol, deeds, (word, 1))
                self.can(protocol, deeds, (word, 0))


class CountTest(TableCase):

    def test_when(self):
        protocol = (THIN, (UNDONE, manner(sent=True), DONE))
        self.cannot(protocol, (("begin",),), ("count", 1))
        self.cannot(protocol, (("begin",), ("no", 1)), ("count", 1))
        self.cannot(protocol, (("begin",), ("yes", 0)), ("count", 1))
        for word in ("yes", "read"):
            deeds = (("begin",), (word, 1))
            self.can(protocol, deeds, ("count", 1))
            self.cannot(protocol, deeds + (("count", 1),), ("count", 1))
            self.cannot(protocol, deeds + (("quit",),), ("count", 1))
            self.cannot(protocol, deeds + (("stop", 0),), ("count", 1))
        self.can(protocol, (("begin",), ("yes", 1), ("fall", 1, 0)), ("count", 1))

    def test_in_any_order(self):
        protocol = (("lazy", "none", "none"), (manner(thanks=("commit",)),) * 3)
        yes = (("begin",),) + tuple(("yes", i) for i in range(3))
        for order in itertools.permutations(range(3)):
            deeds = yes + tuple(("count", i) for i in order[:2])
            self.assertEqual(led(protocol, deeds)[0], ("voting", ("begun",), 0, tuple(sorted(order[:2]))))
            behind = led(protocol, deeds + (("count", order[2]),))
            self.assertEqual((behind[0], behind[3]), (("committing", ("begun",), 0, ()), ("commit",)))

    def test_one_alone(self):
        protocol = (THIN, (UNDONE,))
        self.check(protocol, (("begin",), ("yes", 0), ("count", 0)), ("committing", ("committed",), 1, ()),
                   (("prepared", ("prepared",), 1),), [(0, "prepare"), (0, "yes"), (0, "commit")], ("commit",))

    def test_readers_alone(self):
        protocol = (THIN, (manner(), manner(thanks=("abort",))))
        self.check(protocol, (("begin",), ("read", 1), ("read", 0), ("count", 1), ("count", 0)),
                   ("unknown", ("committed", "ended"), 1, ()), (("out", (), 0),) * 2,
                   [(i, word) for i in (0, 1) for word in ("prepare", "yes", "commit")], ("commit",))


class DecideTest(TableCase):

    def test_commit(self):
        for begun, committed in itertools.product(STRENGTHS, repeat=2):
            for thanks in THANKS:
                protocol = ((begun, committed, "forced"), (manner(thanks=thanks),))
                log, sure = log_of("begun", begun)
                log += log_of("committed", committed)[0]
                sure = len(log) if committed == "forced" else sure
                phase = "committing"
                if "commit" not in thanks:
                    phase, log = "unknown", log + (("ended",) if log else ())
                self.check(protocol, (("begin",), ("yes", 0), ("count", 0)), (phase, log, sure, ()),
                           (("prepared", (), 0),), [(0, "prepare"), (0, "yes"), (0, "commit")], ("commit",))

    def test_abort(self):
        for begun, aborted in itertools.product(STRENGTHS, repeat=2):
            for thanks in THANKS:
                protocol = ((begun, "forced", aborted), (manner(), manner(thanks=thanks)))
                log, sure = log_of("begun", begun)
                log += log_of("aborted", aborted)[0]
                sure = len(log) if aborted == "forced" else sure
                phase = "aborting"
                if "abort" not in thanks:
                    phase, log = "unknown", log + (("ended",) if log else ())
                self.check(protocol, (("begin",), ("quit",)), (phase, log, sure, ()), (("active", (), 0),) * 2,
                           [(i, word) for i in (0, 1) for word in ("prepare", "abort")], ("abort",))

    def test_heard_is_left(self):
        protocol = (THIN, (manner(thanks=("abort",)),) * 2)
        deeds = (("begin",), ("yes", 1), ("count", 1))
        self.assertEqual(led(protocol, deeds)[0][3], (1,))
        self.assertEqual(led(protocol, deeds + (("quit",),))[0], ("aborting", (), 0, ()))

    def test_refused(self):
        protocol = (("forced", "none", "lazy"), (UNDONE, DONE))
        deeds = (("begin",), ("yes", 0), ("no", 1))
        self.cannot(protocol, (("begin",),), ("refused", 1))
        self.cannot(protocol, deeds, ("refused", 0))
        self.can(protocol, deeds, ("refused", 1))
        self.check(protocol, deeds + (("refused", 1),), ("aborting", ("begun", "aborted"), 1, ()),
                   (("prepared", ("prepared",), 1), ("aborted", (), 0)),
                   [(0, "prepare"), (0, "yes"), (1, "prepare"), (1, "no"), (0, "abort"), (1, "abort")], ("abort",))
        self.cannot(protocol, deeds + (("refused", 1),), ("refused", 1))
        self.cannot(protocol, deeds + (("quit",),), ("refused", 1))
        self.cannot((THIN, (UNDONE, UNDONE)), deeds + (("stop", 0),), ("refused", 1))
        self.can(protocol, deeds + (("fall", 1, 0),), ("refused", 1))

    def test_quit(self):
        protocol = (THIN, (UNDONE, DONE))
        self.cannot(protocol, (), ("quit",))
        for deeds in VOTES[:1], VOTES[:2], VOTES[:4], (("begin",), ("no", 0)):
            self.can(protocol, deeds, ("quit",))
            self.assertEqual(led(protocol, deeds + (("quit",),))[0], ("aborting", (), 0, ()))
            self.cannot(protocol, deeds + (("quit",),), ("quit",))
            self.cannot(protocol, deeds + (("stop", 0),), ("quit",))
        self.cannot(protocol, VOTES, ("quit",))


class ThankedTest(TableCase):

    def thanks_of(self, end, many, thanking):
        """A protocol of so many of which these thank for the end, and the deeds ahead of thanks."""
        thanks = [(end,) if i in thanking else () for i in range(many)]
        protocol = (("forced", "forced", "forced"), tuple(manner(thanks=one) for one in thanks))
        deeds = (("begin",),) + tuple(("yes", i) for i in range(many))
        deeds += tuple(("count", i) for i in range(many)) if end == "commit" else (("quit",),)
        return protocol, deeds + tuple(("hear", i, end) for i in range(many))

    def test_some_of_them(self):
        for end, row, phase in (("commit", "committed", "committing"), ("abort", "aborted", "aborting")):
            for thanking in ((0,), (1,), (2,), (0, 1), (0, 2), (1, 2), (0, 1, 2)):
                for order in itertools.permutations(thanking):
                    protocol, deeds = self.thanks_of(end, 3, thanking)
                    self.assertEqual(led(protocol, deeds)[0], (phase, ("begun", row), 2, ()))
                    for i in range(3):
                        (self.can if i in thanking else self.cannot)(protocol, deeds, ("thanked", i))
                    for k in range(1, len(order)):
                        part = deeds + tuple(("thanked", i) for i in order[:k])
                        self.assertEqual(led(protocol, part)[0], (phase, ("begun", row), 2, tuple(sorted(order[:k]))))
                        self.cannot(protocol, part, ("thanked", order[0]))
                    whole = deeds + tuple(("thanked", i) for i in order)
                    self.assertEqual(led(protocol, whole)[0], ("unknown", ("begun", row, "ended"), 2, ()))
                    self.cannot(protocol, whole, ("thanked", order[-1]))

    def test_nobody_thanks(self):
        for end, row in (("commit", "committed"), ("abort", "aborted")):
            protocol, deeds = self.thanks_of(end, 2, ())
            self.assertEqual(led(protocol, deeds)[0], ("unknown", ("begun", row, "ended"), 2, ()))
            self.cannot(protocol, deeds, ("thanked", 0))

    def test_only_letters_that_are_there(self):
        protocol = (THIN, (UNDONE, UNDONE))
        self.cannot(protocol, VOTES, ("thanked", 0))
        self.can(protocol, VOTES + (("hear", 0, "commit"),), ("thanked", 0))
        self.cannot(protocol, VOTES + (("hear", 1, "commit"),), ("thanked", 0))

    def test_an_empty_log_gets_no_row(self):
        protocol = (("none",) * 3, (manner(thanks=ENDS),))
        deeds = (("begin",), ("yes", 0), ("quit",), ("hear", 0, "abort"), ("thanked", 0))
        self.assertEqual(led(protocol, deeds)[0], ("unknown", (), 0, ()))

    def test_ended_is_not_sure(self):
        protocol = (("lazy", "lazy", "lazy"), (manner(thanks=ENDS),))
        deeds = (("begin",), ("yes", 0), ("count", 0), ("hear", 0, "commit"), ("thanked", 0))
        self.assertEqual(led(protocol, deeds)[0], ("unknown", ("begun", "committed", "ended"), 0, ()))

    def test_thanks_for_the_other_end_do_not_count(self):
        # The coordinator loses its row committed, decides abort by begun, and has thanks for commit.
        protocol = (("forced", "lazy", "none"), (manner(thanks=ENDS), manner(thanks=ENDS)))
        deeds = VOTES + (("hear", 0, "commit"), ("stop", 1))
        self.assertEqual(led(protocol, deeds)[0], ("aborting", ("begun",), 1, ()))
        self.cannot(protocol, deeds, ("thanked", 0))
        self.can(protocol, deeds + (("hear", 0, "abort"),), ("thanked", 0))

    def test_thanks_are_heard_again_behind_a_stop(self):
        protocol = (THIN, (UNDONE, UNDONE))
        deeds = VOTES + (("hear", 0, "commit"), ("thanked", 0))
        self.cannot(protocol, deeds, ("thanked", 0))
        self.assertEqual(led(protocol, deeds + (("stop", 1),))[0], ("committing", ("committed",), 1, ()))
        self.can(protocol, deeds + (("stop", 1),), ("thanked", 0))


class HearTest(TableCase):

    def test_prepared_takes_commit(self):
        for prepared, committed, thanks in itertools.product(STRENGTHS, STRENGTHS, THANKS):
            protocol = (THIN, (manner(prepared, committed, "forced", thanks),))
            log, sure = log_of("prepared", prepared)
            log += log_of("committed", committed)[0]
            sure = len(log) if committed == "forced" else sure
            before = led(protocol, VOTES[:2] + (("count", 0),))
            standing = after(protocol, before, ("hear", 0, "commit"))
            letters = before[2] + (((0, "committed"),) if "commit" in thanks else ())
            self.assertEqual(standing, (before[0], (("committed", log, sure),), tuple(sorted(letters)), ("commit",)))
            self.assertEqual(deed_error(protocol, standing, ("hear", 0, "commit")), "closed")

    def test_prepared_takes_abort(self):
        for prepared, aborted, thanks in itertools.product(STRENGTHS, STRENGTHS, THANKS):
            protocol = (THIN, (manner(prepared, "forced", aborted, thanks),))
            log, sure = log_of("prepared", prepared)
            log += log_of("aborted", aborted)[0]
            sure = len(log) if aborted == "forced" else sure
            before = led(protocol, VOTES[:2] + (("quit",),))
            standing = after(protocol, before, ("hear", 0, "abort"))
            letters = before[2] + (((0, "aborted"),) if "abort" in thanks else ())
            self.assertEqual(standing, (before[0], (("aborted", log, sure),), tuple(sorted(letters)), ("abort",)))
            self.assertEqual(deed_error(protocol, standing, ("hear", 0, "abort")), "closed")

    def test_active_takes_abort_and_writes_nothing(self):
        for thanks in THANKS:
            protocol = (THIN, (manner("forced", "forced", "forced", thanks),))
            standing = led(protocol, (("begin",), ("quit",), ("hear", 0, "abort")))
            self.assertEqual(standing[1], (("aborted", (), 0),))
            self.assertEqual((0, "aborted") in standing[2], "abort" in thanks)

    def test_who_hears_first_tells_it(self):
        # By the letter that is asked for the participant is told what nobody was told before.
        protocol = (THIN, (manner("forced", presumed="commit"), UNDONE))
        deeds = (("begin",), ("yes", 0), ("stop", 0), ("ask", 0))
        self.assertEqual(led(protocol, deeds)[3], ())
        self.assertEqual(led(protocol, deeds + (("hear", 0, "commit"),))[3], ("commit",))

    def test_blank_with_sent_work_takes_commit(self):
        for committed, thanks in itertools.product(STRENGTHS, THANKS):
            protocol = (THIN, (manner("none", committed, "forced", thanks, sent=True),))
            deeds = (("begin",), ("yes", 0), ("fall", 0, 0), ("count", 0), ("hear", 0, "commit"))
            standing = led(protocol, deeds)
            self.assertEqual(standing[1], (("committed",) + log_of("committed", committed),))
            self.assertEqual((0, "committed") in standing[2], "commit" in thanks)
            self.assertEqual(standing[3], ("commit",))

    def test_blank_with_sent_work_takes_abort_and_writes_nothing(self):
        for thanks in THANKS:
            protocol = (THIN, (manner("none", "forced", "forced", thanks, sent=True),))
            standing = led(protocol, (("begin",), ("yes", 0), ("fall", 0, 0), ("quit",), ("hear", 0, "abort")))
            self.assertEqual(standing[1], (("aborted", (), 0),))
            self.assertEqual((0, "aborted") in standing[2], "abort" in thanks)

    def test_blank_with_sent_work_takes_again(self):
        # Its thanks are there; it falls with nothing in its log, and takes the same end once more.
        protocol = (("forced", "forced", "none"), (manner(thanks=ENDS, sent=True),))
        deeds = VOTES[:2] + (("count", 0), ("hear", 0, "commit"), ("fall", 0, 0))
        self.assertEqual(led(protocol, deeds)[1], (("blank", (), 0),))
        self.can(protocol, deeds, ("hear", 0, "commit"))
        self.assertEqual(led(protocol, deeds + (("hear", 0, "commit"),))[1], (("committed", (), 0),))

    def test_thanks_alone(self):
        # Each of these does not take abort: it only thanks, once, and if it thanks for abort.
        ways_there = (
            (("begin",), ("no", 0), ("quit",)),
            (("begin",), ("read", 0), ("quit",)),
            (("begin",), ("fall", 0, 0), ("quit",)),
            (("begin",), ("yes", 0), ("fall", 0, 0), ("quit",)))
        for deeds in ways_there:
            for thanks in THANKS:
                protocol = (("forced",) * 3, (manner("none", "forced", "forced", thanks), UNDONE))
                before = led(protocol, deeds)
                if "abort" not in thanks:
                    self.cannot(protocol, deeds, ("hear", 0, "abort"))
                    continue
                standing = after(protocol, before, ("hear", 0, "abort"))
                self.assertEqual(standing, before[:2] + (tuple(sorted(before[2] + ((0, "aborted"),))), before[3]))
                self.assertEqual(deed_error(protocol, standing, ("hear", 0, "abort")), "closed")

    def test_committed_hears_abort(self):
        # The coordinator has lost its row, and aborts; who has committed thanks for that, too.
        for thanks in THANKS:
            protocol = (("forced", "lazy", "none"), (manner("none", "forced", "forced", thanks), UNDONE))
            deeds = VOTES + (("hear", 0, "commit"), ("stop", 1))
            if "commit" not in thanks:
                continue
            before = led(protocol, deeds)
            self.assertEqual(before[1][0], ("committed", ("committed",), 1))
            if "abort" in thanks:
                behind = after(protocol, before, ("hear", 0, "abort"))
                self.assertEqual(behind[1], before[1])
                self.assertEqual(behind[2], tuple(sorted(before[2] + ((0, "aborted"),))))
            else:
                self.cannot(protocol, deeds, ("hear", 0, "abort"))
            self.can(protocol, deeds, ("hear", 1, "abort"))
            self.can(protocol, deeds, ("hear", 1, "commit"))

    def test_the_letter_has_to_be_there(self):
        protocol = (THIN, (UNDONE, UNDONE))
        for deeds in ((), VOTES[:1], VOTES[:3], VOTES[:4]):
            for end in ENDS:
                self.cannot(protocol, deeds, ("hear", 0, end))
        self.can(protocol, VOTES, ("hear", 0, "commit"))
        self.cannot(protocol, VOTES, ("hear", 0, "abort"))
        self.can(protocol, VOTES[:3] + (("quit",),), ("hear", 1, "abort"))
        self.cannot(protocol, VOTES[:3] + (("quit",),), ("hear", 1, "commit"))


class AskTest(TableCase):

    def test_what_is_presumed_is_sent(self):
        for presumed in ENDS:
            for sent in (False, True):
                protocol = (THIN, (UNDONE, manner("forced", presumed=presumed, sent=sent)))
                deeds = (("begin",), ("yes", 1), ("stop", 0))
                before = led(protocol, deeds)
                wanted = before[:2] + (tuple(sorted(before[2] + ((1, presumed),))), ())
                self.assertEqual(after(protocol, before, ("ask", 1)), wanted)
                self.cannot(protocol, deeds + (("ask", 1),), ("ask", 1))

    def test_only_prepared_ones_ask(self):
        protocol = (THIN, (manner(presumed="commit"), manner("forced")))
        for deed in (("no", 0), ("read", 0), ("fall", 0, 0)):
            self.cannot(protocol, (("begin",), deed, ("stop", 0)), ("ask", 0))
        self.cannot(protocol, (("begin",), ("stop", 0)), ("ask", 0))
        self.can(protocol, (("begin",), ("yes", 0), ("stop", 0)), ("ask", 0))
        self.cannot(protocol, (("begin",), ("yes", 0), ("stop", 0), ("ask", 0), ("hear", 0, "commit")), ("ask", 0))

    def test_only_an_unknown_coordinator_is_asked(self):
        protocol = (("none", "forced", "forced"), (manner("forced", thanks=ENDS, presumed="commit"),) * 2)
        self.cannot(protocol, VOTES[:3], ("ask", 0))
        self.cannot(protocol, VOTES, ("ask", 0))
        self.cannot(protocol, VOTES[:3] + (("quit",),), ("ask", 0))
        self.can(protocol, VOTES[:3] + (("stop", 0),), ("ask", 0))

    def test_not_if_that_letter_is_there_otherwise(self):
        # The decision has sent abort to all, and is forgotten, as nobody thanks for it.
        protocol = (THIN, (manner("forced", presumed="abort"), manner("forced", presumed="commit")))
        deeds = VOTES[:3] + (("quit",),)
        self.assertEqual(led(protocol, deeds)[0][0], "unknown")
        self.cannot(protocol, deeds, ("ask", 0))
        self.can(protocol, deeds, ("ask", 1))
        self.assertEqual(led(protocol, deeds + (("ask", 1),))[2][-3:], ((1, "commit"), (1, "prepare"), (1, "yes")))


class RestoreTest(TableCase):

    def test_voting_and_counted(self):
        for strength in ("none", "lazy"):
            protocol = (THIN, (UNDONE, manner(strength, sent=True)))
            deeds = (("begin",), ("yes", 1), ("count", 1), ("fall", 1, 0))
            before = led(protocol, deeds)
            self.assertEqual(before[1][1], ("blank", (), 0))
            participants = (("active", (), 0), ("prepared",) + log_of("prepared", strength))
            self.assertEqual(after(protocol, before, ("restore", 1)), (before[0], participants) + before[2:])

    def test_with_prepared_forced(self):
        # Only who never said yes is blank then, so it was not counted.
        protocol = (THIN, (manner("forced", sent=True),))
        self.assertEqual(led(protocol, (("begin",), ("fall", 0, 0), ("restore", 0)))[0], ("unknown", (), 0, ()))

    def test_voting_and_not_counted(self):
        protocol = (("forced", "forced", "lazy"), (DONE, manner(sent=True)))
        for deeds in ((("begin",), ("fall", 1, 0)), (("begin",), ("yes", 1), ("fall", 1, 0)),
                      (("begin",), ("no", 1), ("fall", 1, 0)), (("begin",), ("yes", 0), ("count", 0), ("fall", 1, 0))):
            before = led(protocol, deeds)
            behind = after(protocol, before, ("restore", 1))
            self.assertEqual(behind[0], ("aborting", ("begun", "aborted"), 1, ()))
            self.assertEqual(behind[1], before[1])
            self.assertEqual(behind[2], tuple(sorted(before[2] + ((0, "abort"), (1, "abort")))))
            self.assertEqual(behind[3], ("abort",))

    def test_unknown(self):
        protocol = (THIN, (UNDONE, manner("none", "forced", "forced", ENDS, "commit", True)))
        before = led(protocol, (("begin",), ("yes", 1), ("fall", 1, 0), ("stop", 0)))
        self.assertEqual(before[3], ())
        participants = (("active", (), 0), ("aborted", (), 0))
        self.assertEqual(after(protocol, before, ("restore", 1)), (before[0], participants, before[2], ("abort",)))

    def test_when(self):
        protocol = (THIN, (manner("none", thanks=ENDS), manner("none", thanks=ENDS, sent=True)))
        fallen = (("fall", 0, 0), ("fall", 1, 0))
        self.cannot(protocol, fallen, ("restore", 1))
        self.can(protocol, (("begin",),) + fallen, ("restore", 1))
        self.cannot(protocol, (("begin",),) + fallen, ("restore", 0))
        self.can(protocol, (("begin",), ("stop", 0)) + fallen, ("restore", 1))
        self.cannot(protocol, (("begin",), ("stop", 0)) + fallen, ("restore", 0))
        self.cannot(protocol, VOTES + fallen, ("restore", 1))
        self.cannot(protocol, (("begin",), ("quit",)) + fallen, ("restore", 1))
        for deed in (("yes", 1), ("no", 1), ("read", 1)):
            self.cannot(protocol, (("begin",), deed), ("restore", 1))


class StopTest(TableCase):

    def test_not_while_idle(self):
        protocol = (THIN, (UNDONE, UNDONE))
        self.cannot(protocol, (), ("stop", 0))
        self.can(protocol, VOTES[:1], ("stop", 0))
        self.can(protocol, (("begin",), ("stop", 0)), ("stop", 0))

    def test_nothing_in_its_log(self):
        for begun in ("none", "lazy"):
            protocol = ((begun, "forced", "forced"), (UNDONE, UNDONE))
            before = led(protocol, VOTES[:4])
            self.assertEqual(after(protocol, before, ("stop", 0)), (("unknown", (), 0, ()),) + before[1:])

    def test_begun_alone(self):
        for begun in ("lazy", "forced"):
            for aborted in STRENGTHS:
                for thanks in THANKS:
                    protocol = ((begun, "forced", aborted), (manner("forced", thanks=thanks),) * 2)
                    before = led(protocol, VOTES[:4])
                    log, sure = ("begun",) + log_of("aborted", aborted)[0], 2 if aborted == "forced" else 1
                    if "abort" in thanks:
                        coordinator = ("aborting", log, sure, ())
                    else:
                        coordinator = ("unknown", log + ("ended",), sure, ())
                    letters = tuple(sorted(before[2] + ((0, "abort"), (1, "abort"))))
                    self.assertEqual(after(protocol, before, ("stop", 1)), (coordinator, before[1], letters, ("abort",)))

    def test_committed_is_decided_anew(self):
        protocol = (("lazy", "lazy", "forced"), (UNDONE, UNDONE))
        before = led(protocol, VOTES + (("hear", 0, "commit"), ("thanked", 0)))
        self.assertEqual(before[0], ("committing", ("begun", "committed"), 0, (0,)))
        wanted = ("committing", ("begun", "committed"), 2, ())
        self.assertEqual(after(protocol, before, ("stop", 2)), (wanted,) + before[1:])
        aborting = after(protocol, before, ("stop", 1))
        self.assertEqual(aborting[0], ("unknown", ("begun", "aborted", "ended"), 2, ()))
        self.assertEqual(aborting[3], ("abort", "commit"))
        self.assertEqual(after(protocol, before, ("stop", 0)), (("unknown", (), 0, ()),) + before[1:])

    def test_aborted_is_decided_anew(self):
        protocol = (("none", "forced", "lazy"), (DONE, DONE))
        before = led(protocol, VOTES[:2] + (("quit",), ("hear", 0, "abort"), ("thanked", 0)))
        self.assertEqual(before[0], ("aborting", ("aborted",), 0, (0,)))
        self.assertEqual(after(protocol, before, ("stop", 1)), (("aborting", ("aborted",), 1, ()),) + before[1:])
        self.assertEqual(after(protocol, before, ("stop", 0)), (("unknown", (), 0, ()),) + before[1:])

    def test_ended(self):
        protocol = (("lazy", "lazy", "none"), (manner(),))
        before = led(protocol, VOTES[:2] + (("count", 0),))
        log = ("begun", "committed", "ended")
        self.assertEqual(before[0], ("unknown", log, 0, ()))
        self.assertEqual(after(protocol, before, ("stop", 3)), (("unknown", log, 3, ()),) + before[1:])
        self.assertEqual(after(protocol, before, ("stop", 2)), (("unknown", log, 2, ()),) + before[1:])
        aborted = after(protocol, before, ("stop", 1))
        self.assertEqual(aborted[0], ("unknown", ("begun", "ended"), 1, ()))
        self.assertEqual(after(protocol, before, ("stop", 0)), (("unknown", (), 0, ()),) + before[1:])

    def test_kept(self):
        protocol = (("forced", "lazy", "none"), (UNDONE, UNDONE))
        standing = led(protocol, VOTES)
        self.assertEqual(standing[0], ("committing", ("begun", "committed"), 1, ()))
        for kept, error in ((-1, "kept"), (0, "kept"), (1, None), (2, None), (3, "kept"), (True, "kept")):
            self.assertEqual(deed_error(protocol, standing, ("stop", kept)), error, kept)


class FallTest(TableCase):

    def test_active_ones_lose_their_work(self):
        for sent in (False, True):
            protocol = (THIN, (UNDONE, manner("forced", sent=sent)))
            for deeds in ((), (("begin",),)):
                before = led(protocol, deeds)
                behind = after(protocol, before, ("fall", 1, 0))
                self.assertEqual(behind[1], (("active", (), 0), ("blank", (), 0)))
                self.assertEqual(behind[3], () if sent else ("abort",))
                self.assertEqual((behind[0], behind[2]), (before[0], before[2]))

    def test_prepared(self):
        for prepared, sent in itertools.product(STRENGTHS, (False, True)):
            protocol = (THIN, (manner(prepared, sent=sent), DONE))
            before = led(protocol, (("begin",), ("yes", 0)))
            log, sure = log_of("prepared", prepared)
            for kept in range(sure, len(log) + 1):
                behind = after(protocol, before, ("fall", 0, kept))
                blank = kept == 0
                self.assertEqual(behind[1][0], ("blank" if blank else "prepared", log[:kept], kept))
                self.assertEqual(behind[3], ("abort",) if blank and not sent else ())

    def test_ends(self):
        cases = ((VOTES, "commit", "committed"), (VOTES[:3] + (("quit",),), "abort", "aborted"))
        for deeds, end, row in cases:
            for prepared, strength in itertools.product(STRENGTHS, repeat=2):
                protocol = (THIN, (manner(prepared, strength, strength), UNDONE))
                before = led(protocol, deeds + (("hear", 0, end),))
                phase, log, sure = before[1][0]
                self.assertEqual(phase, row)
                for kept in range(sure, len(log) + 1):
                    wanted = row if row in log[:kept] else "prepared" if "prepared" in log[:kept] else "blank"
                    behind = after(protocol, before, ("fall", 0, kept))
                    self.assertEqual(behind[1][0], (wanted, log[:kept], kept))
                    self.assertEqual("abort" in behind[3], wanted == "blank" or end == "abort")

    def test_one_that_said_no(self):
        for sent in (False, True):
            protocol = (THIN, (manner("forced", sent=sent), UNDONE))
            behind = led(protocol, (("begin",), ("no", 0), ("fall", 0, 0)))
            self.assertEqual((behind[1][0], behind[3]), (("blank", (), 0), ("abort",)))

    def test_neither_blank_nor_out(self):
        protocol = (THIN, (UNDONE, manner(sent=True)))
        for i in (0, 1):
            self.cannot(protocol, (("fall", i, 0),), ("fall", i, 0))
            self.cannot(protocol, (("begin",), ("read", i)), ("fall", i, 0))

    def test_kept(self):
        protocol = (THIN, (manner("forced", "lazy"), UNDONE))
        standing = led(protocol, VOTES + (("hear", 0, "commit"),))
        self.assertEqual(standing[1][0], ("committed", ("prepared", "committed"), 1))
        for kept, error in ((-1, "kept"), (0, "kept"), (1, None), (2, None), (3, "kept"), (True, "kept")):
            self.assertEqual(deed_error(protocol, standing, ("fall", 0, kept)), error, kept)


if __name__ == "__main__":
    unittest.main()
