"""[I2], [I3]: plain runs, and what runs cost."""

import itertools
import random
import unittest

from doubtbooks.costs import counts, plain_run
from doubtbooks.errors import Refused, TooMany
from doubtbooks.knownways import abort_with_work, commit_with_work, presumed_abort, presumed_commit
from doubtbooks.moving import led
from doubtbooks.protocols import alike_for
from tests.helping import (
    DONE, ENDS, HEADS, MANNERS, STRENGTHS, THANKS, THIN, UNDONE, USUAL, VOTES, Plain, Unchanged, any_values, called,
    changed_parts, outcome, raised, same, some_protocols, walk)

BOTH = ("forced", "forced", "forced", ("abort", "commit"), "abort", False)
WORK = ("lazy", "forced", "lazy", ("commit",), "abort", True)


def readers_of(size):
    """All ascending tuples of some of so many participants."""
    return [readers for many in range(size + 1) for readers in itertools.combinations(range(size), many)]


def plain_by_hand(protocol, end, readers):
    """The lines of [I2], one behind another."""
    size, deeds = len(protocol[1]), [("begin",)]
    for i in range(size):
        deeds.append(("read" if i in readers else "yes", i))
    for i in range(size):
        deeds.append(("quit",) if end == "abort" and i == size - 1 else ("count", i))
    for i in range(size):
        if i not in readers or end in protocol[1][i][3]:
            deeds.append(("hear", i, end))
    for i in range(size):
        if end in protocol[1][i][3]:
            deeds.append(("thanked", i))
    return tuple(deeds)


def costs_by_hand(protocol, deeds):
    """What the second reading of the table counts."""
    plain = Plain(protocol)
    for deed in deeds:
        if not plain.can(deed):
            raise AssertionError(deed)
        plain.do(deed)
    return plain.costs()


def costs_by_words(protocol, end, readers=()):
    """What a plain run costs, by what its participants have to write and to send."""
    head, manners = protocol
    size = len(manners)
    thanking = [i for i in range(size) if end in manners[i][3]]
    place = 1 if end == "commit" else 2
    own = [head[0], head[place]]
    if any(strength != "none" for strength in own):
        own.append("lazy")
    theirs = [manners[i][k] for i in range(size) if i not in readers for k in (0, place)]
    letters = size + size + size + len(thanking)
    works = sum(manners[i][5] for i in range(size) if i not in readers)
    return (own.count("forced"), own.count("lazy"), theirs.count("forced"), theirs.count("lazy"), letters, works)


class PlainRunTest(unittest.TestCase):

    def test_one_line_behind_another(self):
        protocol = (THIN, (UNDONE, DONE, BOTH))
        self.assertEqual(plain_run(protocol, "commit", (1,)), (
            ("begin",), ("yes", 0), ("read", 1), ("yes", 2), ("count", 0), ("count", 1), ("count", 2),
            ("hear", 0, "commit"), ("hear", 2, "commit"), ("thanked", 0), ("thanked", 2)))
        self.assertEqual(plain_run(protocol, "abort", (0, 1)), (
            ("begin",), ("read", 0), ("read", 1), ("yes", 2), ("count", 0), ("count", 1), ("quit",),
            ("hear", 1, "abort"), ("hear", 2, "abort"), ("thanked", 1), ("thanked", 2)))
        self.assertEqual(plain_run(protocol, "abort", (0, 1, 2))[:7], (
            ("begin",), ("read", 0), ("read", 1), ("read", 2), ("count", 0), ("count", 1), ("quit",)))

    def test_one_alone(self):
        self.assertEqual(plain_run((THIN, (UNDONE,)), "abort", ()), (
            ("begin",), ("yes", 0), ("quit",), ("hear", 0, "abort")))
        self.assertEqual(plain_run((THIN, (UNDONE,)), "commit", (0,)), (
            ("begin",), ("read", 0), ("count", 0), ("hear", 0, "commit"), ("thanked", 0)))
        self.assertEqual(plain_run((THIN, (UNDONE,)), "abort", (0,)), (("begin",), ("read", 0), ("quit",)))

    def test_drawn_ones(self):
        choice = random.Random(200)
        for protocol in some_protocols(150, 201) + [(head, (UNDONE, DONE)) for head in HEADS]:
            for readers in choice.sample(readers_of(len(protocol[1])), 2) + [(), tuple(range(len(protocol[1])))]:
                for end in ENDS:
                    run = plain_run(protocol, end, readers)
                    self.assertTrue(same(run, plain_by_hand(protocol, end, readers)), (protocol, end, readers))
                    behind = led(protocol, run)
                    self.assertEqual(behind[3], (end,))
                    # Nobody waits, and the coordinator has forgotten.
                    self.assertEqual(behind[0][0], "unknown")
                    phases = [own[0] for own in behind[1]]
                    row = {"commit": "committed", "abort": "aborted"}[end]
                    self.assertEqual(phases, ["out" if i in readers else row for i in range(len(phases))])

    def test_all_manners(self):
        for own in MANNERS:
            for end, readers in itertools.product(ENDS, ((), (0,), (1,), (0, 1))):
                protocol = (THIN, (own, BOTH))
                self.assertEqual(plain_run(protocol, end, readers), plain_by_hand(protocol, end, readers))

    def test_calls(self):
        for protocol in some_protocols(30, 202):
            for end, readers in itertools.product(ENDS, readers_of(len(protocol[1]))[::3]):
                called(self, plain_run, lambda: plain_run((THIN, (BOTH, UNDONE)), "abort", (1,)),
                       protocol=protocol, end=end, readers=readers)


class CountsTest(unittest.TestCase):

    def check(self, protocol, deeds, wanted):
        self.assertTrue(same(counts(protocol, deeds), wanted), (protocol, deeds, counts(protocol, deeds), wanted))

    def test_nothing_done(self):
        for protocol in some_protocols(20, 203):
            self.check(protocol, (), (0,) * 6)

    def test_rows_of_the_coordinator(self):
        costs = {"none": (0, 0), "lazy": (0, 1), "forced": (1, 0)}
        for head in HEADS:
            begun, committed, aborted = [costs[strength] for strength in head]
            silent = ("none", "none", "none", (), "abort", False)
            for end, decided in (("commit", committed), ("abort", aborted)):
                own = (begun[0] + decided[0], begun[1] + decided[1])
                ended = int(own != (0, 0))
                protocol = (head, (silent, silent))
                self.check(protocol, plain_run(protocol, end, ()), (own[0], own[1] + ended, 0, 0, 6, 0))

    def test_rows_of_participants(self):
        for strengths in itertools.product(STRENGTHS, repeat=3):
            prepared, committed, aborted = strengths
            own = strengths + ((), "abort", True)
            protocol = (THIN, (own, own))
            for end, rows in (("commit", (prepared, committed)), ("abort", (prepared, aborted))):
                told = counts(protocol, plain_run(protocol, end, ()))
                self.assertEqual(told[2:], (2 * rows.count("forced"), 2 * rows.count("lazy"), 6, 2))

    def test_letters_and_works(self):
        for thanks, sent in itertools.product(THANKS, (False, True)):
            own = ("none", "none", "none", thanks, "abort", sent)
            for size in range(1, 7):
                protocol = (("none", "none", "none"), (own,) * size)
                for end in ENDS:
                    letters = 3 * size + (size if end in thanks else 0)
                    self.check(protocol, plain_run(protocol, end, ()), (0, 0, 0, 0, letters, size * sent))

    def test_readers_send_no_work(self):
        protocol = (THIN, (WORK, WORK, WORK))
        self.check(protocol, plain_run(protocol, "commit", (1,)), (1, 1, 2, 2, 12, 2))
        self.check(protocol, (("begin",), ("read", 0)), (0, 0, 0, 0, 4, 0))
        self.check(protocol, (("begin",), ("yes", 0)), (0, 0, 0, 1, 4, 1))
        self.check(protocol, (("begin",), ("no", 0)), (0, 0, 0, 0, 4, 0))

    def test_decided_anew(self):
        # The end goes to all each time that it is decided, though its row stands already.
        self.check(USUAL, VOTES, (1, 0, 2, 0, 6, 0))
        self.check(USUAL, VOTES + (("stop", 1),), (1, 0, 2, 0, 8, 0))
        self.check(USUAL, VOTES + (("stop", 1),) * 5, (1, 0, 2, 0, 16, 0))
        begun = (("forced", "forced", "lazy"), (UNDONE, BOTH))
        self.check(begun, (("begin",), ("stop", 1)), (1, 1, 0, 0, 4, 0))
        self.check(begun, (("begin",), ("stop", 1), ("stop", 1)), (1, 2, 0, 0, 6, 0))
        self.check(begun, (("begin",), ("stop", 1), ("stop", 2)), (1, 1, 0, 0, 6, 0))

    def test_a_stop_that_decides_nothing(self):
        self.check(USUAL, (("begin",), ("stop", 0)), (0, 0, 0, 0, 2, 0))
        ended = plain_run(USUAL, "commit", ())
        self.check(USUAL, ended + (("stop", 2),), (1, 1, 4, 0, 8, 0))
        # The row ended is lost, and comes anew.
        self.check(USUAL, ended + (("stop", 1),), (1, 1, 4, 0, 10, 0))
        self.check(USUAL, ended + (("stop", 1), ("thanked", 1), ("thanked", 0)), (1, 2, 4, 0, 10, 0))
        lazy = (("none", "lazy", "none"), (("none", "none", "none", (), "abort", False),))
        self.check(lazy, (("begin",), ("yes", 0), ("count", 0)), (0, 2, 0, 0, 3, 0))
        self.check(lazy, (("begin",), ("yes", 0), ("count", 0), ("stop", 1)), (0, 3, 0, 0, 4, 0))
        self.check(lazy, (("begin",), ("yes", 0), ("count", 0), ("stop", 0)), (0, 2, 0, 0, 3, 0))

    def test_rows_written_again(self):
        loose = ("forced", "lazy", "none", ("commit",), "abort", False)
        deeds = VOTES + (("hear", 0, "commit"), ("fall", 0, 1), ("hear", 0, "commit"))
        # Its thanks go out once more, too.
        self.check((THIN, (loose, UNDONE)), deeds, (1, 0, 2, 2, 8, 0))

    def test_asking_and_restoring(self):
        self.check(USUAL, (("begin",), ("yes", 0), ("stop", 0), ("ask", 0)), (0, 0, 1, 0, 4, 0))
        work = (("none", "forced", "forced"), (WORK, WORK))
        lost = (("begin",), ("yes", 0), ("fall", 0, 0))
        self.check(work, lost, (0, 0, 0, 1, 3, 1))
        # Counted: it writes prepared once more. Not counted: abort is decided.
        self.check(work, lost + (("count", 0), ("restore", 0)), (0, 0, 0, 2, 3, 1))
        self.check(work, lost + (("restore", 0),), (1, 1, 0, 1, 5, 1))
        self.check(work, (("begin",), ("yes", 0), ("fall", 0, 0), ("stop", 0), ("restore", 0)), (0, 0, 0, 1, 3, 1))

    def test_thanks_alone(self):
        deeds = (("begin",), ("read", 0), ("yes", 1), ("count", 0), ("count", 1), ("hear", 0, "commit"))
        self.check(USUAL, deeds, (1, 0, 1, 0, 7, 0))
        self.check(USUAL, (("begin",), ("no", 0), ("refused", 0), ("hear", 1, "abort")), (0, 0, 0, 0, 5, 0))

    def test_along_runs(self):
        choice = random.Random(204)
        met = set()
        for protocol in some_protocols(350, 205, 3) + some_protocols(120, 206):
            run = tuple(deed for standing, deed, behind in walk(protocol, choice, 40))
            met |= {deed[0] for deed in run}
            for many in (len(run), choice.randint(0, len(run))):
                self.check(protocol, run[:many], costs_by_hand(protocol, run[:many]))
        self.assertEqual(len(met), 13)

    def test_plain_runs(self):
        choice = random.Random(207)
        for protocol in some_protocols(250, 208):
            for end in ENDS:
                self.check(protocol, plain_run(protocol, end, ()), costs_by_words(protocol, end))
                readers = choice.choice(readers_of(len(protocol[1])))
                run = plain_run(protocol, end, readers)
                self.check(protocol, run, costs_by_hand(protocol, run))

    def test_a_reader_costs_no_rows(self):
        """[I5]: its letters stay, but that one for abort may be."""
        for protocol in some_protocols(100, 209):
            everybody = tuple(range(len(protocol[1])))
            for end in ENDS:
                told = counts(protocol, plain_run(protocol, end, everybody))
                self.assertEqual(told[2:4] + told[5:], (0, 0, 0))
                self.assertEqual(told[4], counts(protocol, plain_run(protocol, end, ()))[4])

    def test_the_known_ways(self):
        """[I5]: what a plain commit costs, and a plain abort."""
        for n in range(1, 7):
            wanted = {
                presumed_abort: ((1, 1, 2 * n, 0, 4 * n, 0), (0, 0, n, 0, 3 * n, 0)),
                abort_with_work: ((1, 1, n, 0, 4 * n, n), (0, 0, 0, 0, 3 * n, n)),
                presumed_commit: ((2, 1, n, 0, 3 * n, 0), (1, 1, 2 * n, 0, 4 * n, 0)),
                commit_with_work: ((2, 1, n, 0, 4 * n, n), (1, 1, 0, 0, 4 * n, n))}
            for known, (commit, abort) in wanted.items():
                protocol = alike_for(*known(), n)
                self.check(protocol, plain_run(protocol, "commit", ()), commit)
                self.check(protocol, plain_run(protocol, "abort", ()), abort)

    def refused(self, protocol, deeds):
        told = called(self, counts, lambda: counts(USUAL, VOTES), protocol=protocol, deeds=deeds)
        self.assertEqual(told[0], "raised", deeds)
        self.assertEqual(repr(told), repr(outcome(led, protocol, deeds)), deeds)
        return told[1:]

    def test_refused(self):
        for value in any_values():
            for ahead in ((), VOTES[:1], VOTES):
                deeds = ahead + (value,)
                with Unchanged(self, deeds):
                    self.assertTrue(same(raised(Refused, counts, USUAL, deeds), {"deed": value}))
        self.assertEqual(self.refused(USUAL, (("begin",), ("begin",), ("yes", 9))), ("Refused", {"deed": ("begin",)}))
        self.assertEqual(self.refused(USUAL, (("yes", True), None)), ("Refused", {"deed": ("yes", True)}))
        self.assertEqual(self.refused(USUAL, VOTES + (("stop", 0),)), ("Refused", {"deed": ("stop", 0)}))

    def test_runs_with_an_item_exchanged(self):
        run = plain_run(USUAL, "commit", ())
        for value in changed_parts(run[:4], (None, True, 0, 1, "abort", ("quit",))):
            if isinstance(value, tuple):
                self.assertEqual(repr(outcome(counts, USUAL, value))[:12], repr(outcome(led, USUAL, value))[:12])

    def test_too_many(self):
        one = (THIN, (UNDONE,))
        long = (("begin",),) + (("stop", 0),) * 399
        self.check(one, long, (0, 0, 0, 0, 1, 0))
        self.assertEqual(self.refused(one, long + (("stop", 0),)), ("TooMany", {"limit": 400}))
        # Ahead of any deed that cannot be done.
        self.assertEqual(self.refused(one, (None,) * 401), ("TooMany", {"limit": 400}))
        self.assertEqual(self.refused(one, (None,) * 400), ("Refused", {"deed": None}))
        self.assertEqual(raised(TooMany, counts, one, (None,) * 4000), {"limit": 400})

    def test_calls(self):
        choice = random.Random(210)
        for protocol in some_protocols(40, 211):
            run = tuple(deed for standing, deed, behind in walk(protocol, choice, 20))
            for deeds in (run, run[:5], run + (None,), run[1:]):
                called(self, counts, lambda: counts((THIN, (WORK, DONE)), VOTES[:3]), protocol=protocol, deeds=deeds)


if __name__ == "__main__":
    unittest.main()
