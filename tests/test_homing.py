"""[C3], [C4], [C5]: the way home, the fall of all, and what holds of them."""

import random
import unittest

from doubtbooks.ending import is_home
from doubtbooks.homing import all_fall, way_home
from doubtbooks.knownways import all_forced, presumed_abort, presumed_commit
from doubtbooks.moving import after, led, open_deeds
from doubtbooks.protocols import alike_for
from doubtbooks.standings import start
from tests.helping import (
    DONE, HEADS, MANNERS, THIN, UNDONE, USUAL, VOTES, called, lacking, levels, safe_protocols, same, some_protocols,
    standings_along)

WORK = ("none", "forced", "none", ("commit",), "abort", True)
BOTH = ("forced", "forced", "forced", ("abort", "commit"), "abort", False)
RULE = ("begin", "quit", "hear", "thanked", "ask", "restore", "no")


def by_rule(protocol, standing):
    """The rule of [C3] once more, by the deeds that open_deeds tells."""
    way = []
    while not is_home(protocol, standing):
        can = open_deeds(protocol, standing)
        word = [word for word in RULE if word in [deed[0] for deed in can]][0]
        way.append(min(deed for deed in can if deed[0] == word))
        standing = after(protocol, standing, way[-1])
    return tuple(way)


def behind_all(protocol, standing, deeds):
    """The standing behind deeds, each of which has to be one that can be done."""
    for deed in deeds:
        standing = after(protocol, standing, deed)
    return standing


def most_home(protocol):
    """How many deeds [C5] lets a way home have."""
    head, manners = protocol
    many = len(manners)
    safe = not any(lacking(head, manner) for manner in manners)
    return 2 + 2 * many if safe or many <= 2 else 3 * many


def both_letters(many):
    """A protocol, and deeds behind which the letters of both ends go to all, who are prepared."""
    protocol = (("forced", "none", "none"), (BOTH,) * many)
    deeds = (("begin",),) + tuple((word, i) for word in ("yes", "count") for i in range(many))
    return protocol, deeds + (("stop", 1),)


class WayHomeTest(unittest.TestCase):

    def check(self, protocol, deeds, wanted):
        way = way_home(protocol, led(protocol, deeds))
        self.assertTrue(same(way, wanted), (deeds, way))

    def test_begin_and_quit(self):
        way = (("begin",), ("quit",), ("hear", 0, "abort"), ("hear", 1, "abort"))
        self.check(USUAL, (), way)
        self.check(USUAL, (("begin",),), way[1:])
        self.check(USUAL, (("begin",), ("no", 1)), (("quit",), ("hear", 0, "abort")))
        self.check(USUAL, (("begin",), ("read", 0), ("yes", 1), ("count", 1)), (("quit",), ("hear", 1, "abort")))
        self.check(USUAL, VOTES[:4], way[1:])
        self.check(USUAL, (("fall", 0, 0), ("fall", 1, 0)), (("begin",), ("quit",)))

    def test_hear_of_the_least(self):
        self.check(USUAL, VOTES, (("hear", 0, "commit"), ("hear", 1, "commit"), ("thanked", 0), ("thanked", 1)))
        self.check(USUAL, VOTES + (("hear", 1, "commit"),), (("hear", 0, "commit"), ("thanked", 0), ("thanked", 1)))
        self.check(USUAL, VOTES + (("hear", 1, "commit"), ("thanked", 1)), (("hear", 0, "commit"), ("thanked", 0)))

    def test_abort_ahead_of_commit(self):
        protocol, deeds = both_letters(2)
        self.check(protocol, deeds, (
            ("hear", 0, "abort"), ("hear", 0, "commit"), ("hear", 1, "abort"), ("hear", 1, "commit"), ("thanked", 0),
            ("thanked", 1)))

    def test_both_letters_of_which_one_is_thanked_for(self):
        weak = (("none", "lazy", "none"), (UNDONE, UNDONE))
        # Home is reached ahead of the thanks of the last one for commit.
        self.check(weak, VOTES + (("stop", 0), ("ask", 1)), (("hear", 0, "commit"), ("hear", 1, "abort")))
        self.check(weak, VOTES + (("stop", 0), ("ask", 0)), (
            ("hear", 0, "abort"), ("hear", 0, "commit"), ("hear", 1, "commit")))
        self.check(weak, VOTES + (("stop", 0),), (("hear", 0, "commit"), ("hear", 1, "commit")))

    def test_thanks_alone(self):
        # Readers, and a blank one, have nothing to take, but the coordinator waits for their thanks.
        self.check(USUAL, (("begin",), ("read", 0), ("yes", 1), ("count", 0), ("count", 1)),
                   (("hear", 0, "commit"), ("hear", 1, "commit"), ("thanked", 0), ("thanked", 1)))
        done = alike_for(*presumed_commit(), 2)
        self.check(done, (("begin",), ("fall", 1, 0), ("no", 0), ("refused", 0)),
                   (("hear", 0, "abort"), ("hear", 1, "abort"), ("thanked", 0), ("thanked", 1)))

    def test_thanked_of_the_least(self):
        heard = VOTES + (("hear", 0, "commit"), ("hear", 1, "commit"))
        self.check(USUAL, heard, (("thanked", 0), ("thanked", 1)))
        self.check(USUAL, heard + (("thanked", 1),), (("thanked", 0),))

    def test_ask_of_the_least(self):
        # A coordinator that fell without a row knows nothing.
        deeds = (("begin",), ("yes", 1), ("yes", 0), ("stop", 0))
        self.check(USUAL, deeds, (("ask", 0), ("hear", 0, "abort"), ("ask", 1), ("hear", 1, "abort")))
        self.check((THIN, (DONE, UNDONE)), deeds, (("ask", 0), ("hear", 0, "commit"), ("ask", 1), ("hear", 1, "abort")))
        self.check(USUAL, deeds + (("ask", 1),), (("hear", 1, "abort"), ("ask", 0), ("hear", 0, "abort")))

    def test_restore_of_the_least(self):
        work = (THIN, (WORK, WORK, UNDONE))
        deeds = (("begin",), ("yes", 0), ("yes", 1), ("yes", 2), ("fall", 1, 0), ("fall", 0, 0), ("stop", 0))
        self.check(work, deeds, (("ask", 2), ("hear", 2, "abort"), ("restore", 0), ("restore", 1)))
        self.check((THIN, (WORK, WORK)), (("fall", 0, 0), ("begin",), ("stop", 0)), (("restore", 0), ("no", 1)))

    def test_no_of_the_least(self):
        for size in range(1, 7):
            protocol = (THIN, (UNDONE,) * size)
            self.check(protocol, (("begin",), ("stop", 0)), tuple(("no", i) for i in range(size)))
        self.check(USUAL, (("begin",), ("stop", 0), ("no", 0)), (("no", 1),))
        # To who is active commit may be on its way; it says no all the same.
        unsure = (("none", "none", "none"), (("none", "none", "none", (), "commit", False), UNDONE))
        self.check(unsure, (("begin",), ("yes", 0), ("stop", 0), ("ask", 0)), (("hear", 0, "commit"), ("no", 1)))

    def test_home_already(self):
        ended = VOTES + (("hear", 0, "commit"), ("hear", 1, "commit"), ("thanked", 0), ("thanked", 1))
        self.check(USUAL, ended, ())
        self.check((THIN, (DONE, BOTH)), (("begin",), ("fall", 0, 0), ("no", 1), ("stop", 0)), ())

    def test_by_the_rule(self):
        choice = random.Random(30)
        firsts = set()
        for protocol in some_protocols(250, 31, 3) + some_protocols(80, 32) + safe_protocols(60, 33, 1):
            for standing in standings_along(protocol, choice, 25):
                way = by_rule(protocol, standing)
                firsts |= {way[:1] and way[0][0]}
                self.assertTrue(same(way_home(protocol, standing), way), (protocol, standing))
        self.assertEqual(firsts, set(RULE) | {()})

    def test_calls(self):
        choice = random.Random(34)
        for protocol in some_protocols(20, 35):
            for standing in standings_along(protocol, choice, 12):
                called(self, way_home, lambda: way_home(USUAL, start(USUAL)), protocol=protocol, standing=standing)


class AllFallTest(unittest.TestCase):

    def check(self, protocol, deeds, lost, wanted):
        standing = led(protocol, deeds)
        behind = behind_all(protocol, standing, wanted)
        self.assertTrue(same(all_fall(protocol, standing, lost), behind), (deeds, lost))

    def test_an_idle_coordinator_stays(self):
        for lost in (False, True):
            self.check(USUAL, (), lost, (("fall", 0, 0), ("fall", 1, 0)))
            self.check(USUAL, (("fall", 0, 0),), lost, (("fall", 1, 0),))
            self.check(USUAL, (("fall", 0, 0), ("fall", 1, 0)), lost, ())

    def test_the_coordinator_first(self):
        # It falls while the one whose letters it sends is still prepared, so letters are sent to it.
        for lost in (False, True):
            self.check(USUAL, VOTES, lost, (("stop", 1), ("fall", 0, 1), ("fall", 1, 1)))
            self.check(USUAL, (("begin",),), lost, (("stop", 0), ("fall", 0, 0), ("fall", 1, 0)))

    def test_how_many_rows(self):
        lazy = ("lazy", "lazy", "lazy", ("abort", "commit"), "abort", False)
        protocol = (("lazy", "lazy", "lazy"), (lazy, BOTH, lazy))
        deeds = (("begin",),) + tuple((word, i) for word in ("yes", "count") for i in range(3))
        deeds += (("hear", 0, "commit"), ("hear", 1, "commit"))
        self.check(protocol, deeds, False, (("stop", 2), ("fall", 0, 2), ("fall", 1, 2), ("fall", 2, 1)))
        self.check(protocol, deeds, True, (("stop", 0), ("fall", 0, 0), ("fall", 1, 2), ("fall", 2, 0)))
        self.assertEqual(all_fall(protocol, led(protocol, deeds), True)[3], ("abort", "commit"))
        self.assertEqual(all_fall(protocol, led(protocol, deeds), False)[3], ("commit",))

    def test_ended_rows(self):
        protocol = alike_for(*presumed_abort(), 1)
        deeds = (("begin",), ("yes", 0), ("count", 0), ("hear", 0, "commit"), ("thanked", 0))
        self.check(protocol, deeds, False, (("stop", 2), ("fall", 0, 2)))
        self.check(protocol, deeds, True, (("stop", 1), ("fall", 0, 2)))
        self.assertEqual(all_fall(protocol, led(protocol, deeds), False)[0][0], "unknown")
        self.assertEqual(all_fall(protocol, led(protocol, deeds), True)[0][0], "committing")

    def test_blank_ones_and_readers_stay(self):
        deeds = (("begin",), ("read", 0), ("fall", 2, 0), ("yes", 1))
        for lost in (False, True):
            self.check((THIN, (UNDONE, BOTH, DONE)), deeds, lost, (("stop", 0), ("fall", 1, 1)))
            self.check((THIN, (BOTH, WORK, WORK)), deeds, lost, (("stop", 0), ("fall", 1, 0)))

    def test_along_runs(self):
        choice = random.Random(36)
        for protocol in some_protocols(150, 37, 3) + some_protocols(80, 38) + safe_protocols(40, 39, 1):
            for standing in standings_along(protocol, choice, 25):
                for lost in (False, True):
                    deeds = [] if standing[0][0] == "idle" else [("stop", standing[0][2 if lost else 1])]
                    for i, (phase, log, sure) in enumerate(standing[1]):
                        if phase not in ("blank", "out"):
                            deeds.append(("fall", i, sure if lost else log))
                    deeds = [deed[:-1] + (deed[-1] if lost else len(deed[-1]),) for deed in deeds]
                    behind = behind_all(protocol, standing, deeds)
                    self.assertTrue(same(all_fall(protocol, standing, lost), behind), (protocol, standing, lost))

    def test_calls(self):
        choice = random.Random(40)
        for protocol in some_protocols(20, 41):
            for standing in standings_along(protocol, choice, 12):
                for lost in (False, True):
                    called(self, all_fall, lambda: all_fall(USUAL, start(USUAL), not lost),
                           protocol=protocol, standing=standing, lost=lost)


class HoldsTest(unittest.TestCase):
    """[C5], along runs, and through all standings of small protocols."""

    def standings(self):
        choice = random.Random(42)
        for protocol in some_protocols(200, 43, 3) + some_protocols(100, 44) + safe_protocols(100, 45, 1):
            for standing in standings_along(protocol, choice, 30):
                yield protocol, standing
        for _ in range(60):
            protocol = (choice.choice(HEADS), (choice.choice(MANNERS),))
            for level in levels(protocol, start(protocol)):
                for standing in level:
                    yield protocol, standing

    def test_home_within_the_bounds(self):
        for protocol, standing in self.standings():
            way = way_home(protocol, standing)
            self.assertLessEqual(len(way), most_home(protocol), (protocol, standing))
            self.assertFalse({deed[0] for deed in way} & {"stop", "fall"})
            home = behind_all(protocol, standing, way)
            self.assertTrue(is_home(protocol, home))
            self.assertEqual(way_home(protocol, home), ())
            self.assertFalse({participant[0] for participant in home[1]} & {"prepared", "active"})

    def test_the_bounds_are_met(self):
        for many in range(1, 7):
            forced = alike_for(*all_forced("abort"), many)
            self.assertEqual(len(way_home(forced, start(forced))), 2 + 2 * many)
            protocol, deeds = both_letters(many)
            self.assertEqual(len(way_home(protocol, led(protocol, deeds))), 3 * many)

    def test_all_fall_again(self):
        for protocol, standing in self.standings():
            fallen = all_fall(protocol, standing, True)
            self.assertTrue(same(all_fall(protocol, fallen, True), fallen), (protocol, standing))

    def test_nobody_is_told_again_at_home(self):
        lazy = (("lazy", "lazy", "lazy"), (BOTH, BOTH))
        readers = led(lazy, (("begin",), ("read", 0), ("read", 1), ("count", 0), ("count", 1), ("stop", 0)))
        found = [(lazy, readers)] + list(self.standings())
        later = 0
        for protocol, standing in found:
            standing = behind_all(protocol, standing, way_home(protocol, standing))
            can = True
            while can:
                can = [deed for deed in open_deeds(protocol, standing) if deed[0] not in ("stop", "fall")]
                if can:
                    behind = after(protocol, standing, can[0])
                    self.assertTrue(is_home(protocol, behind))
                    self.assertEqual((behind[1], behind[3]), (standing[1], standing[3]))
                    standing, later = behind, later + 1
        self.assertGreater(later, 20)


if __name__ == "__main__":
    unittest.main()
