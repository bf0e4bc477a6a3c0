"""[B5], [B6], [B8]: which deeds can be done, what stands behind them, and what holds along runs."""

import itertools
import random
import unittest

from doubtbooks.errors import Refused, TooMany
from doubtbooks.moving import after, deed_error, led, open_deeds
from doubtbooks.standings import standing_error, start
from tests.helping import (
    DONE, ENDS, HEADS, MANNERS, THIN, UNDONE, USUAL, VOTES, Plain, Unchanged, any_values, raised, same, some_protocols,
    walk)

WORDS = {
    "begin": 0, "yes": 1, "no": 1, "read": 1, "count": 1, "refused": 1, "quit": 0, "thanked": 1, "hear": 2, "ask": 1,
    "restore": 1, "stop": 1, "fall": 2}
# What is neither a participant nor a number of kept rows, whatever the protocol is.
NO_NUMBERS = [value for value in any_values() if isinstance(value, bool) or not isinstance(value, int)]
NO_NUMBERS += [-1, 7, 10 ** 400 - 1, "0", (0,), [0]]


def built_deeds(size):
    """All deeds that are built right, for so many participants, and any number of rows kept."""
    places = range(size)
    deeds = [("begin",), ("quit",)] + [("stop", kept) for kept in range(4)]
    deeds += [(word, i) for word in ("yes", "no", "read", "count", "refused", "thanked", "ask", "restore") for i in places]
    deeds += [("hear", i, end) for i in places for end in ENDS]
    return deeds + [("fall", i, kept) for i in places for kept in range(3)]


class DeedErrorTest(unittest.TestCase):

    def check(self, value, wanted, standing=None, protocol=USUAL):
        standing = led(USUAL, VOTES) if standing is None else standing
        self.assertTrue(same(deed_error(protocol, standing, value), wanted), value)

    def test_any_value(self):
        for value in any_values():
            with Unchanged(self, value):
                self.check(value, "form")

    def test_form(self):
        for word, many in WORDS.items():
            for items in range(4):
                for rest in itertools.product((0, "abort", None), repeat=items):
                    deed = (word, *rest)
                    right = items == many and (word != "hear" or rest[1] == "abort")
                    self.assertEqual(deed_error(USUAL, led(USUAL, VOTES), deed) == "form", not right, deed)
                    self.check(list(deed), "form")
        for value in (("",), ("Begin",), ("begin ",), ("vote",), ("yes 0",), (0, "yes"), (["begin"],), ({},), (None,),
                      (("begin",),), ("decide", "abort"), ("participant", 0), ((), 0), ([], 0, 0)):
            self.check(value, "form")

    def test_end_of_hear(self):
        for value in any_values() + ["none", "both", "committed", ("abort",), ["commit"], "Abort"]:
            if value not in ENDS:
                for i in (0, 9, None):
                    self.check(("hear", i, value), "form")
        for end in ENDS:
            self.assertNotEqual(deed_error(USUAL, led(USUAL, VOTES), ("hear", 0, end)), "form")

    def test_participant(self):
        for word, many in WORDS.items():
            if word in ("begin", "quit", "stop"):
                continue
            rest = {"hear": ("abort",), "fall": (99,)}.get(word, ())
            for value in NO_NUMBERS + [2, 3]:
                self.check((word, value) + rest, "participant")
            for size in range(1, 7):
                protocol = (THIN, (UNDONE,) * size)
                standing = start(protocol)
                self.check((word, size) + rest, "participant", standing, protocol)
                self.assertNotEqual(deed_error(protocol, standing, (word, size - 1) + rest), "participant")

    def test_kept(self):
        for standing in (start(USUAL), led(USUAL, VOTES), led(USUAL, VOTES + (("hear", 0, "commit"),))):
            for value in NO_NUMBERS:
                self.check(("stop", value), "kept", standing)
                self.check(("fall", 0, value), "kept", standing)
                self.check(("fall", 1, value), "kept", standing)
        self.check(("fall", 0, 1), "kept", start(USUAL))
        self.check(("stop", 1), "kept", start(USUAL))
        self.check(("stop", 0), "closed", start(USUAL))
        reader = led(USUAL, (("begin",), ("read", 0), ("fall", 1, 0)))
        for i in (0, 1):
            self.check(("fall", i, 0), "closed", reader)
            self.check(("fall", i, 1), "kept", reader)

    def test_open_ones(self):
        for deed in built_deeds(2):
            standing = led(USUAL, VOTES)
            self.assertEqual(deed_error(USUAL, standing, deed) is None, deed in open_deeds(USUAL, standing), deed)

    def test_by_name(self):
        standing = led(USUAL, VOTES)
        for value in built_deeds(3) + any_values():
            by_name = deed_error(protocol=USUAL, standing=standing, value=value)
            self.assertEqual(by_name, deed_error(USUAL, standing, value))


class OpenDeedsTest(unittest.TestCase):

    def test_at_the_start(self):
        for size in range(1, 7):
            protocol = (THIN, (UNDONE,) * size)
            wanted = (("begin",),) + tuple(("fall", i, 0) for i in range(size))
            self.assertTrue(same(open_deeds(protocol, start(protocol)), wanted))
            self.assertTrue(same(open_deeds(protocol=protocol, standing=start(protocol)), wanted))

    def test_all_words_in_order(self):
        # Work that is sent, thanks on the way, a coordinator whose rows are not sure.
        manner = ("lazy", "lazy", "lazy", ("abort", "commit"), "abort", True)
        protocol = (("lazy", "lazy", "lazy"), (manner, manner))
        standing = led(protocol, VOTES + (("hear", 0, "commit"),))
        self.assertEqual(open_deeds(protocol, standing), (
            ("fall", 0, 0), ("fall", 0, 1), ("fall", 0, 2), ("fall", 1, 0), ("fall", 1, 1), ("hear", 1, "commit"),
            ("stop", 0), ("stop", 1), ("stop", 2), ("thanked", 0)))
        standing = after(protocol, standing, ("stop", 1))
        self.assertEqual(open_deeds(protocol, standing), (
            ("fall", 0, 0), ("fall", 0, 1), ("fall", 0, 2), ("fall", 1, 0), ("fall", 1, 1), ("hear", 0, "abort"),
            ("hear", 1, "abort"), ("hear", 1, "commit"), ("stop", 1), ("stop", 2)))


class AfterTest(unittest.TestCase):

    def test_refused(self):
        standing = led(USUAL, VOTES[:4])
        before = repr(standing)
        can = [repr(deed) for deed in open_deeds(USUAL, standing)]
        for deed in any_values() + built_deeds(4) + [list(deed) for deed in built_deeds(2)]:
            if repr(deed) in can:
                continue
            with Unchanged(self, deed):
                for fields in (raised(Refused, after, USUAL, standing, deed),
                               raised(Refused, after, protocol=USUAL, standing=standing, deed=deed)):
                    self.assertEqual(list(fields), ["deed"])
                    self.assertIs(fields["deed"], deed)
            self.assertEqual(repr(standing), before)

    def test_bools_are_refused(self):
        standing = led(USUAL, VOTES[:1])
        for deed in (("yes", True), ("no", False), ("stop", False), ("fall", False, 0), ("fall", 0, False)):
            self.assertTrue(same(raised(Refused, after, USUAL, standing, deed), {"deed": deed}))

    def test_by_name(self):
        standing = start(USUAL)
        self.assertEqual(after(deed=("begin",), standing=standing, protocol=USUAL), after(USUAL, standing, ("begin",)))

    def test_what_is_handed_in_stays(self):
        for protocol in some_protocols(20, 5, 3):
            for standing, deed, behind in walk(protocol, random.Random(5), 20):
                with Unchanged(self, protocol, standing, deed, behind):
                    self.assertTrue(same(after(protocol, standing, deed), behind))
                    open_deeds(protocol, standing)
                    standing_error(protocol, standing)


class LedTest(unittest.TestCase):

    def test_nothing_done(self):
        self.assertEqual(led(USUAL, ()), start(USUAL))

    def test_step_by_step(self):
        standing = start(USUAL)
        for k, deed in enumerate(VOTES):
            standing = after(USUAL, standing, deed)
            self.assertTrue(same(led(USUAL, VOTES[:k + 1]), standing))
            self.assertTrue(same(led(protocol=USUAL, deeds=VOTES[:k + 1]), standing))

    def test_the_first_that_is_refused(self):
        for wrong in any_values() + [("begin",), ("yes", True), ("yes", 2), ["yes", 1]]:
            for k in range(1, 6):
                deeds = VOTES[:k] + (wrong, ("begin",)) + VOTES[k:]
                with Unchanged(self, deeds):
                    self.assertIs(raised(Refused, led, USUAL, deeds)["deed"], wrong)
                    self.assertIs(raised(Refused, led, protocol=USUAL, deeds=deeds)["deed"], wrong)

    def test_how_many(self):
        begun = (("begin",), ("stop", 0))
        protocol = (THIN, (UNDONE,))
        for many in (398, 399):
            deeds = (("begin",),) + (("stop", 0),) * many
            self.assertEqual(led(protocol, deeds), led(protocol, begun))
        for deeds in ((("begin",),) + (("stop", 0),) * 400, (None,) * 401, (["begin"],) * 4000):
            self.assertEqual(raised(TooMany, led, protocol, deeds), {"limit": 400})
            self.assertEqual(raised(TooMany, led, protocol=protocol, deeds=deeds), {"limit": 400})
        self.assertEqual(raised(Refused, led, protocol, (None,) * 400), {"deed": None})


class PlainReadingTest(unittest.TestCase):
    """The table, read twice, tells the same."""

    def compare(self, protocol, deeds):
        plain = Plain(protocol)
        standing = start(protocol)
        for deed in deeds:
            standing = after(protocol, standing, deed)
            plain.do(deed)
            self.assertTrue(same(standing, plain.standing()), (protocol, deed))
            wanted = tuple(sorted(each for each in plain.all_deeds() if plain.can(each)))
            self.assertTrue(same(open_deeds(protocol, standing), wanted), (protocol, standing))

    def test_along_runs(self):
        choice = random.Random(6)
        words = set()
        for protocol in some_protocols(500, 6, 3) + some_protocols(50, 7):
            deeds = [deed for standing, deed, behind in walk(protocol, choice, 30)]
            words |= {deed[0] for deed in deeds}
            self.compare(protocol, deeds)
        self.assertEqual(words, set(WORDS))

    def test_all_standings_of_small_protocols(self):
        choice = random.Random(8)
        for _ in range(60):
            protocol = (choice.choice(HEADS), (choice.choice(MANNERS),))
            met, waiting = {start(protocol)}, [(start(protocol), ())]
            while waiting:
                standing, deeds = waiting.pop()
                plain = Plain(protocol)
                for deed in deeds:
                    plain.do(deed)
                self.assertEqual(standing, plain.standing())
                wanted = {each for each in plain.all_deeds() if plain.can(each)}
                self.assertEqual(set(open_deeds(protocol, standing)), wanted)
                for deed in wanted:
                    behind = after(protocol, standing, deed)
                    if behind not in met:
                        met.add(behind)
                        waiting.append((behind, deeds + (deed,)))


class HoldsTest(unittest.TestCase):
    """[B8], along runs."""

    def runs(self):
        choice = random.Random(9)
        protocols = some_protocols(250, 10, 3) + some_protocols(30, 11)
        for size in (1, 2, 3):
            protocols += [(THIN, (UNDONE,) * size), (("forced", "forced", "none"), (DONE,) * size)]
        for protocol in protocols:
            for standing, deed, behind in walk(protocol, choice, 30):
                yield protocol, standing, deed, behind

    def test_the_shape_stays_and_the_rest_is_refused(self):
        for protocol, standing, deed, behind in self.runs():
            self.assertIsNone(standing_error(protocol, behind), (protocol, behind))
            can = open_deeds(protocol, behind)
            self.assertEqual(can, tuple(sorted(set(can))))
            for other in built_deeds(len(protocol[1]) + 1):
                if other in can:
                    self.assertIsNone(deed_error(protocol, behind, other))
                else:
                    self.assertEqual(raised(Refused, after, protocol, behind, other), {"deed": other})

    def test_letters_and_told_grow_alone(self):
        for protocol, standing, deed, behind in self.runs():
            self.assertLessEqual(set(standing[2]), set(behind[2]))
            self.assertLessEqual(set(standing[3]), set(behind[3]))

    def test_rows_grow_and_sure_ones_stay(self):
        for protocol, standing, deed, behind in self.runs():
            sites = zip((standing[0],) + standing[1], (behind[0],) + behind[1])
            for k, (site, later) in enumerate(sites):
                self.assertEqual(later[1][:site[2]], site[1][:site[2]])
                self.assertGreaterEqual(later[2], site[2])
                if not (deed[0] == "stop" and k == 0) and not (deed[0] == "fall" and k == deed[1] + 1):
                    self.assertEqual(later[1][:len(site[1])], site[1])

    def test_logs_are_short(self):
        for protocol, standing, deed, behind in self.runs():
            self.assertEqual(len(set(behind[0][1])), len(behind[0][1]))
            self.assertLessEqual(len(behind[0][1]), 3)
            for phase, log, sure in behind[1]:
                self.assertEqual(len(set(log)), len(log))
                self.assertIn(log, ((), ("prepared",), ("committed",), ("aborted",), ("prepared", "committed"),
                                    ("prepared", "aborted")))

    def test_a_participant_leaves_the_others_alone(self):
        for protocol, standing, deed, behind in self.runs():
            if deed[0] in ("yes", "no", "read", "hear", "ask", "restore", "fall"):
                for i in range(len(protocol[1])):
                    if i != deed[1]:
                        self.assertEqual(standing[1][i], behind[1][i])

    def test_phases_without_falls(self):
        order = ("idle", "voting", "committing", "aborting", "unknown")
        choice = random.Random(12)
        for protocol in some_protocols(200, 13, 3):
            standing, phases = start(protocol), [["active"] for _ in protocol[1]]
            for _ in range(30):
                can = [deed for deed in open_deeds(protocol, standing) if deed[0] not in ("stop", "fall")]
                if not can:
                    break
                behind = after(protocol, standing, choice.choice(can))
                self.assertLessEqual(order.index(standing[0][0]), order.index(behind[0][0]))
                for i, (phase, log, sure) in enumerate(behind[1]):
                    if phase != phases[i][-1]:
                        self.assertNotIn(phase, phases[i])
                        phases[i].append(phase)
                standing = behind


if __name__ == "__main__":
    unittest.main()
