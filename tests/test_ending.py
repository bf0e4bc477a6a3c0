"""[C1], [C2]: which standings are split, and which are home."""

import random
import unittest

from doubtbooks.ending import is_home, is_split
from doubtbooks.knownways import all_forced
from doubtbooks.moving import after, led, open_deeds
from doubtbooks.protocols import alike_for
from doubtbooks.standings import start
from tests.helping import DONE, THIN, UNDONE, USUAL, VOTES, called, some_protocols, standings_along

WEAK = (("none", "lazy", "none"), (UNDONE, UNDONE))
SENT = ("none", "forced", "none", ("commit",), "abort", True)
SPLIT = VOTES + (("stop", 0), ("ask", 0), ("hear", 0, "abort"))


def home(protocol, standing):
    """[C1] once more: nobody waits."""
    for manner, (phase, log, sure) in zip(protocol[1], standing[1]):
        if phase not in ("committed", "aborted", "out") and not (phase == "blank" and not manner[5]):
            return False
    return standing[0][0] == "unknown"


class SplitTest(unittest.TestCase):

    def test_one_end_is_no_split(self):
        self.assertIs(is_split(start(USUAL)), False)
        for deeds in (VOTES, (("begin",), ("quit",)), (("fall", 0, 0), ("fall", 1, 0)), (("begin",), ("no", 0), ("no", 1))):
            self.assertIs(is_split(led(USUAL, deeds)), False)

    def test_both_ends(self):
        self.assertIs(is_split(led(WEAK, SPLIT[:-1])), False)
        self.assertIs(is_split(led(WEAK, SPLIT)), True)
        self.assertIs(is_split(standing=led(WEAK, SPLIT)), True)

    def test_told_to_the_same_one(self):
        bare = (("none", "none", "none"), (("none", "none", "none", (), "abort", False),))
        deeds = (("begin",), ("yes", 0), ("count", 0), ("hear", 0, "commit"), ("fall", 0, 0))
        self.assertEqual([is_split(led(bare, deeds[:many])) for many in range(6)], [False] * 5 + [True])

    def test_a_split_stays(self):
        choice = random.Random(20)
        met = 0
        for protocol in some_protocols(400, 21, 3):
            split = False
            for standing in standings_along(protocol, choice, 40):
                self.assertIs(is_split(standing), "abort" in standing[3] and "commit" in standing[3])
                self.assertFalse(split and not is_split(standing))
                split = is_split(standing)
                met += split
        self.assertGreater(met, 1000)

    def test_a_split_stays_whatever_is_done(self):
        waiting = [led(WEAK, SPLIT)]
        met = set(waiting)
        while waiting:
            standing = waiting.pop()
            self.assertIs(is_split(standing), True)
            for deed in open_deeds(WEAK, standing):
                behind = after(WEAK, standing, deed)
                if behind not in met:
                    met.add(behind)
                    waiting.append(behind)
        self.assertGreater(len(met), 10)


class HomeTest(unittest.TestCase):

    def check(self, protocol, deeds, wanted):
        self.assertIs(is_home(protocol, led(protocol, deeds)), wanted, deeds)

    def test_the_coordinator_knows(self):
        for deeds in ((), (("fall", 0, 0), ("fall", 1, 0))):
            self.check(USUAL, deeds, False)
        heard = VOTES + (("hear", 0, "commit"), ("hear", 1, "commit"))
        for many in range(1, 8):
            self.check(USUAL, heard[:many], False)
        self.check(USUAL, heard + (("thanked", 1),), False)
        self.check(USUAL, heard + (("thanked", 1), ("thanked", 0)), True)
        done = (("forced", "forced", "none"), (DONE, DONE))
        self.check(done, (("begin",), ("no", 0), ("no", 1), ("refused", 0)), False)

    def test_each_phase_of_a_participant(self):
        # By presumed abort a coordinator that gives up knows nothing at once.
        heard = (("yes",), ("hear", "abort"))
        for words, wanted in (
                ((), False), ((("yes",),), False), ((("no",),), True), ((("read",),), True), ((("fall", 0),), True),
                (heard, True)):
            for i in (0, 1):
                own = [(word, i, *rest) for word, *rest in words]
                deeds = (("begin",), *own[:1], ("quit",), *own[1:])
                self.check(USUAL, deeds, False)
                self.check(USUAL, deeds + (("hear", 1 - i, "abort"),), wanted)
            alone = [(word, 0, *rest) for word, *rest in words]
            self.check((THIN, (UNDONE,)), (("begin",), *alone[:1], ("quit",), *alone[1:]), wanted)

    def test_blank_ones(self):
        for manner, wanted in ((UNDONE, True), (SENT, False), (DONE[:5] + (True,), False)):
            protocol = (THIN, (manner,))
            deeds = (("begin",), ("fall", 0, 0), ("stop", 0))
            self.check(protocol, deeds, wanted)
            self.assertIs(is_home((THIN, (UNDONE,)), led(protocol, deeds)), True)
        mixed = (THIN, (SENT, UNDONE))
        self.check(mixed, (("begin",), ("no", 0), ("fall", 1, 0), ("quit",)), True)
        self.check(mixed, (("begin",), ("no", 1), ("fall", 0, 0), ("quit",)), False)
        self.check(mixed, (("begin",), ("no", 1), ("fall", 0, 0), ("quit",), ("hear", 0, "abort")), True)

    def test_all_sizes(self):
        for size in range(1, 7):
            protocol = alike_for(*all_forced("abort"), size)
            deeds = (("begin",),) + tuple(("no", i) for i in range(size)) + (("quit",),)
            for i in range(size):
                self.check(protocol, deeds, False)
                deeds += (("hear", i, "abort"), ("thanked", i))
            self.check(protocol, deeds, True)
            self.check(protocol, deeds + (("stop", 2),), False)

    def test_along_runs(self):
        choice = random.Random(22)
        counted = {True: 0, False: 0}
        for protocol in some_protocols(300, 23, 3) + some_protocols(100, 24):
            for standing in standings_along(protocol, choice, 30):
                wanted = home(protocol, standing)
                counted[wanted] += 1
                self.assertIs(is_home(protocol, standing), wanted, (protocol, standing))
        self.assertGreater(min(counted.values()), 500)

    def test_calls(self):
        standings = [led(WEAK, SPLIT[:many]) for many in range(9)]
        for standing in standings:
            called(self, is_split, lambda: is_split(standings[8]), standing=standing)
            called(self, is_home, lambda: is_home(USUAL, start(USUAL)), protocol=WEAK, standing=standing)


if __name__ == "__main__":
    unittest.main()
