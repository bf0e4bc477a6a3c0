"""[E1], [E2], [E4]: losing runs, and who is watched."""

import itertools
import random
import unittest

from doubtbooks.ending import is_split
from doubtbooks.fitting import is_safe
from doubtbooks.moving import led
from doubtbooks.splitjudge import splitting_error
from doubtbooks.splitting import splitting, watched
from tests.helping import (
    DONE, FIT, HEADS, MANNERS, STRENGTHS, THIN, UNDONE, called, ever_splits, lacking, safe_protocols, some_protocols)

# How long the runs of [E4] are at most, with two participants or more.
LONGEST = {
    "prepared": lambda n: 2 * n + 2, "head committed": lambda n: 2 * n + 4, "begun": lambda n: 6,
    "thanks abort": lambda n: 2 * n + 3, "aborted": lambda n: 2 * n + 6, "thanks commit": lambda n: 4 * n + 3,
    "committed": lambda n: 4 * n + 4}
BY_WORD = {
    word: [(head, own) for head in HEADS for own in MANNERS if lacking(head, own) == (word,)] for word in LONGEST}


class SplittingCase(unittest.TestCase):

    def check(self, protocol, most=None):
        """Looks at the losing run of a protocol that is not safe, and returns it."""
        run = splitting(protocol)
        self.assertIsInstance(run, tuple, protocol)
        self.assertIsNone(splitting_error(protocol, run), (protocol, run))
        self.assertTrue(is_split(led(protocol, run)), (protocol, run))
        self.assertLessEqual(len(run), 4 * len(protocol[1]) + 4)
        if most is not None:
            self.assertLessEqual(len(run), most, (protocol, run))
        return run


class LosingRunTest(SplittingCase):

    def test_each_word_alone_at_each_place(self):
        choice = random.Random(70)
        for word, ways in BY_WORD.items():
            self.assertTrue(ways)
            for many in range(2, 7):
                for head, own in choice.sample(ways, 12):
                    # A head that is lacking is so for all others, too.
                    others = FIT[head] or [other for other in MANNERS if lacking(head, other) == (word,)]
                    for i in range(many):
                        manners = [choice.choice(others) for _ in range(many)]
                        manners[i] = own
                        protocol = (head, tuple(manners))
                        self.check(protocol, LONGEST[word](many))

    def test_each_word_beside_all_kinds(self):
        choice = random.Random(71)
        for word, ways in BY_WORD.items():
            for head, own in choice.sample(ways, 15):
                for many in range(2, 7):
                    manners = [choice.choice(MANNERS) for _ in range(many)]
                    manners[choice.randrange(many)] = own
                    self.check((head, tuple(manners)))

    def test_each_way_beside_itself(self):
        for head, own in itertools.product(HEADS, MANNERS[::5]):
            if lacking(head, own):
                self.check((head, (own, own)))

    def test_two_words(self):
        choice = random.Random(72)
        for one, other in itertools.combinations(LONGEST, 2):
            ways = [(head, own) for head in HEADS for own in MANNERS if {one, other} <= set(lacking(head, own))]
            for head, own in choice.sample(ways, min(len(ways), 20)):
                for many in (1, 2, 5):
                    protocol = (head, (own,) * many)
                    if not is_safe(protocol):
                        self.check(protocol)

    def test_of_two_by_unlike_ones(self):
        # One lacks this, the other one that.
        choice = random.Random(73)
        for head in HEADS:
            for _ in range(60):
                protocol = (head, (choice.choice(MANNERS), choice.choice(MANNERS)))
                if not is_safe(protocol):
                    self.check(protocol)
                else:
                    self.assertIsNone(splitting(protocol))

    def test_all_sizes(self):
        for protocol in some_protocols(600, 74):
            if is_safe(protocol):
                self.assertIsNone(splitting(protocol))
            else:
                self.check(protocol)

    def test_further_participants(self):
        """[E4]: whoever is put to a protocol that is not safe, it stays so."""
        choice = random.Random(75)
        for protocol in some_protocols(150, 76, 5) + [(THIN, (UNDONE, DONE)), (("none",) * 3, (DONE, DONE))]:
            head, manners = protocol
            if is_safe(protocol) or len(manners) == 1:
                continue
            while len(manners) < 6:
                i = choice.randint(0, len(manners))
                manners = manners[:i] + (choice.choice(FIT[head] or MANNERS),) + manners[i:]
                self.assertFalse(is_safe((head, manners)))
                self.check((head, manners))

    def test_head_committed(self):
        work = ("none", "forced", "none", ("commit",), "abort", True)
        for begun, committed in itertools.product(STRENGTHS, ("none", "lazy")):
            for manners in ((UNDONE, UNDONE), (DONE, UNDONE), (UNDONE, DONE), (work, DONE), (DONE, DONE), (DONE, work)):
                for aborted in STRENGTHS:
                    self.check(((begun, committed, aborted), manners), 8)

    def test_nobody_thanks(self):
        # The coordinator forgets as it decides.
        for presumed, prepared, sent in itertools.product(("abort", "commit"), STRENGTHS, (False, True)):
            own = (prepared, "forced", "forced", (), presumed, sent)
            for head, many in itertools.product(HEADS, (1, 2, 3)):
                self.check((head, (own,) * many))

    def test_calls(self):
        for protocol in some_protocols(60, 77) + safe_protocols(20, 78, 1):
            called(self, splitting, lambda: splitting((THIN, (DONE, DONE))), protocol=protocol)


class AloneTest(SplittingCase):

    def test_all_ways(self):
        """[E4], for one participant: None exactly if the protocol is safe."""
        for head, own in itertools.product(HEADS, MANNERS):
            protocol = (head, (own,))
            if is_safe(protocol):
                self.assertIsNone(splitting(protocol))
            else:
                self.check(protocol)

    def test_abort_of_the_coordinator_lost(self):
        for begun, committed, aborted in itertools.product(("none", "lazy"), STRENGTHS, ("none", "lazy")):
            if begun == "none" or committed == "forced":
                self.assertEqual(len(self.check(((begun, committed, aborted), (DONE,)))), 6)

    def test_begun_alone_kept(self):
        for committed in ("none", "lazy"):
            for aborted in STRENGTHS:
                self.assertEqual(len(self.check((("lazy", committed, aborted), (DONE,)))), 4)

    def test_work_given_up(self):
        for prepared, thanks in itertools.product(("none", "lazy"), (("abort",), ("abort", "commit"))):
            own = (prepared, "forced", "forced", thanks, "commit", True)
            for head in (("none", "none", "forced"), ("none", "forced", "forced"), ("lazy", "forced", "forced")):
                self.check((head, (own,)), 8)

    def test_safe_for_being_alone(self):
        for head in (("none", "none", "forced"), ("none", "lazy", "forced"), ("lazy", "forced", "forced")):
            self.assertIsNone(splitting((head, (DONE,))))
            self.assertEqual(watched((head, (DONE,))), ())
            self.check((head, (DONE, DONE)), 6)
            self.assertEqual(watched((head, (DONE, DONE))), (0, 1))


class SafeTest(SplittingCase):

    def test_none(self):
        for protocol in safe_protocols(300, 79, 1):
            self.assertIsNone(splitting(protocol))
            self.assertEqual(watched(protocol), ())

    def test_none_exactly_if_no_run_splits(self):
        """[E4], by going through all standings."""
        choice = random.Random(80)
        protocols = safe_protocols(20, 81, 1, 2) + some_protocols(150, 82, 2)
        for head in HEADS:
            protocols.append((head, (choice.choice(FIT[head] or MANNERS), choice.choice(MANNERS))))
        for protocol in protocols:
            self.assertIs(splitting(protocol) is None, not ever_splits(protocol), protocol)


class WatchedTest(SplittingCase):

    def check_watched(self, protocol):
        head, manners = protocol
        wanted = [] if is_safe(protocol) else [i for i, own in enumerate(manners) if lacking(head, own)]
        self.assertEqual(watched(protocol), tuple(wanted))
        self.assertIs(watched(protocol) == (), is_safe(protocol))

    def test_some(self):
        loose = ("forced", "lazy", "none", ("commit",), "abort", False)
        for lacks_it in itertools.product((False, True), repeat=4):
            protocol = (THIN, tuple(loose if bad else UNDONE for bad in lacks_it))
            self.assertEqual(watched(protocol), tuple(i for i in range(4) if lacks_it[i]))
        self.assertEqual(watched((THIN, (UNDONE, DONE, UNDONE))), (1,))

    def test_all(self):
        for many in range(1, 7):
            self.assertEqual(watched((("none", "lazy", "none"), (UNDONE,) * many)), tuple(range(many)))

    def test_all_sizes(self):
        choice = random.Random(83)
        for protocol in some_protocols(300, 84) + safe_protocols(100, 85, 1):
            self.check_watched(protocol)
            head, manners = protocol
            mixed = tuple(own if choice.random() < 0.5 else choice.choice(FIT[head] or MANNERS) for own in manners)
            self.check_watched((head, mixed))

    def test_one_alone(self):
        for head, own in itertools.product(HEADS, MANNERS[::3]):
            self.check_watched((head, (own,)))

    def test_calls(self):
        for protocol in some_protocols(60, 86) + safe_protocols(20, 87, 1):
            called(self, watched, lambda: watched((THIN, (DONE, DONE))), protocol=protocol)


if __name__ == "__main__":
    unittest.main()
