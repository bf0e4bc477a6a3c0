"""[F1], [F2], [F3]: all standings that come, and shortest runs."""

import itertools
import random
import unittest

from doubtbooks.ending import is_split
from doubtbooks.errors import TooMany
from doubtbooks.fitting import is_safe
from doubtbooks.moving import after, led, open_deeds
from doubtbooks.splitjudge import splitting_error
from doubtbooks.splitting import splitting
from doubtbooks.standings import start
from doubtbooks.wandering import come, ends_yet, meetings, shortest_split
from tests.helping import (
    DONE, HEADS, MANNERS, THIN, UNDONE, USUAL, VOTES, Unchanged, any_values, called, levels, raised, safe_protocols, same,
    some_protocols, standings_along)

LOOSE = ("forced", "lazy", "none", ("commit",), "abort", False)
COORDINATOR_PHASES = ("idle", "voting", "committing", "aborting", "unknown")
PARTICIPANT_PHASES = ("active", "prepared", "committed", "aborted", "blank", "out")
LAZY = ("lazy", "lazy", "lazy")
# Protocols of which so many standings come.
NEAR = {
    2999: (("lazy", "forced", "lazy"), (
        ("lazy", "lazy", "none", ("abort", "commit"), "abort", False), ("lazy", "none", "none", ("commit",), "commit", False))),
    3000: (LAZY, (
        ("none", "lazy", "forced", ("commit",), "abort", True), ("lazy", "none", "lazy", ("abort",), "abort", False))),
    3001: (("lazy", "none", "none"), (
        ("forced", "lazy", "lazy", ("abort",), "commit", True), ("none", "lazy", "none", ("abort", "commit"), "commit", True))),
    3002: (("lazy", "none", "lazy"), (
        ("lazy", "lazy", "forced", ("abort", "commit"), "commit", False), ("lazy", "lazy", "forced", (), "abort", True)))}
TOO_MANY = {"limit": 3000}


def phases_of(standing):
    return (standing[0][0],) + tuple(participant[0] for participant in standing[1])


def as_wanted(standing, wanted):
    return all(want in (None, phase) for want, phase in zip(wanted, phases_of(standing)))


def first_level(found, holds):
    """How many deeds lead to the nearest standing of which this holds; None if none comes."""
    for many, level in enumerate(found):
        if any(holds(standing) for standing in level):
            return many
    return None


def small_protocols(seed):
    """Protocols of one participant and of two, with their standings by the second search."""
    choice = random.Random(seed)
    protocols = [(choice.choice(HEADS), (choice.choice(MANNERS),)) for _ in range(40)]
    protocols += safe_protocols(6, seed, 1, 2) + some_protocols(16, seed, 2) + [USUAL, (THIN, (LOOSE, UNDONE))]
    found = [(protocol, levels(protocol, start(protocol))) for protocol in protocols]
    return [(protocol, each) for protocol, each in found if sum(len(level) for level in each) <= 3000]


SMALL = small_protocols(100)


class WanderingCase(unittest.TestCase):

    def too_many(self, protocol):
        standing = start(protocol)
        wanted = (None,) * (len(protocol[1]) + 1)
        self.assertEqual(raised(TooMany, come, protocol), TOO_MANY)
        self.assertEqual(raised(TooMany, shortest_split, protocol), TOO_MANY)
        self.assertEqual(raised(TooMany, ends_yet, protocol, standing), TOO_MANY)
        self.assertEqual(raised(TooMany, meetings, protocol, wanted), TOO_MANY)


class ComeTest(WanderingCase):

    def test_by_second_search(self):
        for protocol, found in SMALL:
            self.assertTrue(same(come(protocol), sum(len(level) for level in found)), protocol)

    def test_near_the_bound(self):
        for many, protocol in NEAR.items():
            self.assertEqual(sum(len(level) for level in levels(protocol, start(protocol))), many)
            if many <= 3000:
                self.assertEqual(come(protocol), many)
                self.assertEqual(ends_yet(protocol, start(protocol)), ("abort", "commit"))
                self.assertEqual(meetings(protocol, (None, None, None)), ())
                self.assertIsNone(splitting_error(protocol, shortest_split(protocol)))
            else:
                self.too_many(protocol)

    def test_too_many(self):
        for many in (3, 4, 5, 6):
            self.too_many((THIN, (LOOSE,) * many))
        for many in (5, 6):
            self.too_many((THIN, (UNDONE,) * many))
        self.assertLessEqual(come((THIN, (UNDONE,) * 3)), 3000)

    def test_calls(self):
        for protocol, found in SMALL[::3]:
            called(self, come, lambda: come((THIN, (UNDONE,))), protocol=protocol)
        called(self, come, lambda: come((THIN, (UNDONE,))), protocol=NEAR[3001])


class ShortestSplitTest(WanderingCase):

    def check(self, protocol, found):
        run = shortest_split(protocol)
        wanted = first_level(found, lambda standing: len(standing[3]) == 2)
        self.assertEqual(None if run is None else len(run), wanted, protocol)
        if run is None:
            self.assertTrue(is_safe(protocol))
            self.assertIsNone(splitting(protocol))
        else:
            self.assertIsNone(splitting_error(protocol, run), (protocol, run))
            self.assertTrue(is_split(led(protocol, run)))
            self.assertLessEqual(len(run), len(splitting(protocol)))
        return run

    def test_by_second_search(self):
        counted = {True: 0, False: 0}
        for protocol, found in SMALL:
            counted[self.check(protocol, found) is None] += 1
        self.assertGreater(min(counted.values()), 5)

    def test_all_known_ways_of_one(self):
        for head, own in itertools.product((THIN, LAZY, ("forced", "none", "forced")), MANNERS[::11]):
            protocol = (head, (own,))
            self.check(protocol, levels(protocol, start(protocol)))

    def test_too_many_though_a_split_is_near(self):
        bare = ("none", "none", "none", (), "abort", False)
        # One that falls at the start aborts, and so few deeds tell commit elsewhere that the split is near.
        protocol = (("none", "none", "none"), (bare,) * 6)
        self.assertLess(len(splitting(protocol)), 20)
        self.too_many(protocol)
        self.assertLess(len(splitting(NEAR[3001])), 10)
        self.assertEqual(raised(TooMany, shortest_split, NEAR[3001]), TOO_MANY)

    def test_calls(self):
        for protocol, found in SMALL[::3]:
            called(self, shortest_split, lambda: shortest_split((THIN, (LOOSE,))), protocol=protocol)
        called(self, shortest_split, lambda: shortest_split((THIN, (LOOSE,))), protocol=NEAR[3001])


class EndsYetTest(WanderingCase):

    def test_by_second_search(self):
        choice = random.Random(104)
        met = set()
        for protocol, found in SMALL:
            for standing in standings_along(protocol, choice, 14)[::2]:
                coming = set().union(*levels(protocol, standing))
                wanted = tuple(sorted(set().union(*[each[3] for each in coming])))
                met.add((is_safe(protocol), standing[3], wanted))
                self.assertTrue(same(ends_yet(protocol, standing), wanted), (protocol, standing))
        both = ("abort", "commit")
        for told, wanted in itertools.product(((), ("abort",), ("commit",)), (both,)):
            self.assertIn((False, told, wanted), met)
        for told, wanted in (((), both), ((), ("abort",)), (("abort",), ("abort",)), (("commit",), ("commit",))):
            self.assertIn((True, told, wanted), met)

    def test_at_the_start(self):
        """[F3]: both ends may come."""
        for protocol, found in SMALL:
            self.assertEqual(ends_yet(protocol, start(protocol)), ("abort", "commit"))

    def test_safe_ones(self):
        """[F3]: the end that is told, alone, if one is told."""
        choice = random.Random(107)
        for protocol in safe_protocols(25, 108, 1, 2):
            for standing in standings_along(protocol, choice, 14)[::3]:
                try_it = raised(TooMany, ends_yet, protocol, standing)
                if try_it is None and standing[3]:
                    self.assertEqual(ends_yet(protocol, standing), standing[3])

    def test_split_ones(self):
        for protocol, found in SMALL:
            run = shortest_split(protocol)
            if run is not None:
                self.assertEqual(ends_yet(protocol, led(protocol, run)), ("abort", "commit"))

    def test_nothing_any_more(self):
        # All have only read, and the coordinator knows nothing.
        for many in (1, 2, 3):
            protocol = (THIN, (UNDONE,) * many)
            deeds = (("begin",),) + tuple(("read", i) for i in range(many)) + (("stop", 0),)
            self.assertEqual(ends_yet(protocol, led(protocol, deeds)), ())
            self.assertEqual(ends_yet(protocol, led(protocol, deeds[:-1])), ("abort", "commit"))

    def test_of_many_from_the_start_but_few_from_here(self):
        protocol = (THIN, (LOOSE,) * 6)
        deeds = (("begin",),) + tuple(("read", i) for i in range(5))
        self.assertEqual(raised(TooMany, ends_yet, protocol, led(protocol, deeds[:2])), TOO_MANY)
        deeds += tuple(("count", i) for i in range(5))
        standing = led(protocol, deeds + (("yes", 5), ("count", 5)))
        self.assertEqual(raised(TooMany, come, protocol), TOO_MANY)
        few = sum(len(level) for level in levels(protocol, standing))
        self.assertLessEqual(few, 3000)
        self.assertEqual(ends_yet(protocol, standing), ("abort", "commit"))
        sound = (THIN, (UNDONE,) * 6)
        self.assertEqual(ends_yet(sound, led(sound, deeds + (("yes", 5), ("count", 5)))), ("commit",))
        self.assertEqual(ends_yet(sound, led(sound, deeds + (("no", 5),))), ("abort",))

    def test_just_so_many_from_here(self):
        start_of = {many: start(protocol) for many, protocol in NEAR.items()}
        self.assertEqual(ends_yet(NEAR[3000], start_of[3000]), ("abort", "commit"))
        self.assertEqual(raised(TooMany, ends_yet, NEAR[3001], start_of[3001]), TOO_MANY)
        # The start itself never comes again, so from behind begin fewer come.
        self.assertIsNone(raised(TooMany, ends_yet, NEAR[3001], led(NEAR[3001], (("begin",),))))

    def test_calls(self):
        choice = random.Random(110)
        for protocol, found in SMALL[::3]:
            standing = standings_along(protocol, choice, 8)[-1]
            called(self, ends_yet, lambda: ends_yet(USUAL, start(USUAL)), protocol=protocol, standing=standing)
        called(self, ends_yet, lambda: ends_yet(USUAL, start(USUAL)), protocol=NEAR[3001], standing=start(NEAR[3001]))


class MeetingsTest(WanderingCase):

    def check(self, protocol, found, wanted):
        run = meetings(protocol, wanted)
        many = first_level(found, lambda standing: as_wanted(standing, wanted))
        self.assertEqual(None if run is None else len(run), many, (protocol, wanted))
        if run is not None:
            self.assertIsInstance(run, tuple)
            self.assertTrue(as_wanted(led(protocol, run), wanted))
        return run

    def test_of_one_all(self):
        protocol = (THIN, (LOOSE,))
        found = levels(protocol, start(protocol))
        none = 0
        for wanted in itertools.product(COORDINATOR_PHASES + (None,), PARTICIPANT_PHASES + (None,)):
            none += self.check(protocol, found, wanted) is None
        self.assertGreater(none, 4)

    def test_of_two_all(self):
        found = levels(USUAL, start(USUAL))
        none = 0
        phases = PARTICIPANT_PHASES + (None,)
        for wanted in list(itertools.product(COORDINATOR_PHASES + (None,), phases, phases))[::3]:
            none += self.check(USUAL, found, wanted) is None
        self.assertGreater(none, 10)

    def test_by_second_search(self):
        choice = random.Random(112)
        for protocol, found in SMALL:
            for _ in range(4):
                wanted = [choice.choice(COORDINATOR_PHASES)] + [choice.choice(PARTICIPANT_PHASES) for _ in protocol[1]]
                for place in range(len(wanted)):
                    if choice.random() < 0.4:
                        wanted[place] = None
                self.check(protocol, found, tuple(wanted))
            standing = choice.choice(sorted(choice.choice(found)))
            self.assertIsNotNone(self.check(protocol, found, phases_of(standing)))

    def test_none_at_each_place(self):
        wanted = ("committing", "committed", "prepared")
        for kept in itertools.product((False, True), repeat=3):
            some = tuple(phase if keep else None for phase, keep in zip(wanted, kept))
            self.check(USUAL, levels(USUAL, start(USUAL)), some)
        self.assertEqual(meetings(USUAL, ("voting", None, "prepared")), (("begin",), ("yes", 1)))
        self.assertEqual(meetings(USUAL, ("voting", "prepared", None)), (("begin",), ("yes", 0)))
        self.assertEqual(meetings(USUAL, (None, None, "blank")), (("fall", 1, 0),))

    def test_all_none(self):
        for many in (1, 2, 3):
            protocol = (THIN, (UNDONE,) * many)
            self.assertTrue(same(meetings(protocol, (None,) * (many + 1)), ()))
            self.assertTrue(same(meetings(protocol, phases_of(start(protocol))), ()))

    def test_what_never_comes(self):
        for wanted in (("unknown", "prepared", "committed"), ("idle", "prepared", None), ("idle", None, "out"),
                       ("committing", "active", None), ("aborting", None, None), ("committing", None, "blank")):
            self.assertIsNone(meetings(USUAL, wanted))
        self.assertIsNotNone(meetings((THIN, (LOOSE, UNDONE)), ("unknown", "prepared", "committed")))

    def unfit(self, protocol, wanted):
        with Unchanged(self, protocol, wanted):
            told = called(self, meetings, lambda: meetings(USUAL, (None,) * 3), protocol=protocol, wanted=wanted)
            self.assertEqual(told, ("raised", "Unfit", {}), wanted)

    def test_any_value(self):
        for value in any_values():
            if not same(value, (None,)):
                self.unfit((THIN, (UNDONE,)), value)
            for place in range(2):
                wanted = [None, None]
                wanted[place] = value
                if value is not None and value != "idle":
                    self.unfit((THIN, (UNDONE,)), tuple(wanted))

    def test_unfit(self):
        self.unfit(USUAL, (None,))
        for wanted in ([None, None, None], (None, None), (None,) * 4, (), ("idle",), "idle", ("idle", "active"),
                       ("idle", "active", "active", "active"), (("idle", "active", "active"),), None,
                       {"idle": 0, "active": 1, "blank": 2}):
            self.unfit(USUAL, wanted)
        for place in range(3):
            for value in (True, False, 0, 1, "", "Idle", "idle ", ("idle",), ["active"], {}, "begin", "down", "none", "ended"):
                wanted = ["voting", "prepared", None]
                wanted[place] = value
                self.unfit(USUAL, tuple(wanted))
                wanted = [None, None, None]
                wanted[place] = value
                self.unfit(USUAL, tuple(wanted))

    def test_words_of_the_other_kind(self):
        for phase in PARTICIPANT_PHASES:
            self.unfit(USUAL, (phase, None, None))
        for phase in COORDINATOR_PHASES:
            self.unfit(USUAL, (None, phase, None))
            self.unfit(USUAL, (None, None, phase))

    def test_unfit_ahead_of_too_many(self):
        protocol = (THIN, (LOOSE,) * 4)
        for wanted in ((None,) * 4, [None] * 5, (None,) * 4 + ("idle",), ("blank",) + (None,) * 4, None):
            self.unfit(protocol, wanted)
        # Nothing is nearer than the start.
        for wanted in ((None,) * 5, ("idle",) + ("active",) * 4, ("voting",) + (None,) * 4):
            self.assertEqual(raised(TooMany, meetings, protocol, wanted), TOO_MANY)

    def test_calls(self):
        for protocol, found in SMALL[::3]:
            for wanted in ((None,), ("unknown",), ("committing",)):
                wanted += ("prepared",) + (None,) * (len(protocol[1]) - 1)
                called(self, meetings, lambda: meetings(USUAL, (None, None, "out")), protocol=protocol, wanted=wanted)


class HoldsTest(WanderingCase):

    def test_what_comes_from_what_comes(self):
        for protocol in (USUAL, (THIN, (LOOSE,)), (THIN, (DONE,))):
            standing = led(protocol, VOTES[:2])
            coming = set().union(*levels(protocol, start(protocol)))
            self.assertIn(start(protocol), coming)
            for each in levels(protocol, standing)[-1]:
                self.assertIn(each, coming)
                for deed in open_deeds(protocol, each):
                    self.assertIn(after(protocol, each, deed), coming)


if __name__ == "__main__":
    unittest.main()
