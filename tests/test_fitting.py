"""[D1], [D2], [D4]: what manners lack, and which protocols are safe."""

import itertools
import random
import unittest

from doubtbooks.fitting import fits, is_safe, lacks
from doubtbooks.knownways import all_forced, commit_with_work, presumed_commit
from doubtbooks.protocols import alike_for
from tests.helping import (
    DONE, FIT, HEADS, MANNERS, STRENGTHS, THANKS, THIN, UNDONE, called, ever_splits, lacking, safe_protocols, same,
    standings_along)

BEGUN = ("forced", "forced", "none")
FULL = ("forced", "forced", "forced")
ALL_WORDS = ("aborted", "begun", "committed", "head committed", "prepared", "thanks abort", "thanks commit")


def manner(prepared="forced", committed="none", aborted="none", thanks=(), presumed="abort", sent=False):
    return (prepared, committed, aborted, thanks, presumed, sent)


def lone_is_safe(head, own):
    """The second half of [D4] once more."""
    prepared, committed, aborted, thanks, presumed, sent = own
    return not lacking(head, own) or (
        (presumed, prepared, aborted, head[2]) == ("commit", "forced", "forced", "forced") and "abort" in thanks
        and (head[0] == "none" or head[1] == "forced"))


class LacksTest(unittest.TestCase):

    def check(self, head, own, *wanted):
        self.assertTrue(same(lacks(head, own), wanted), (head, own, lacks(head, own)))
        self.assertIs(fits(head, own), not wanted)

    def test_head_committed(self):
        for begun, aborted in itertools.product(STRENGTHS, repeat=2):
            for own in (UNDONE, manner("none", "forced", "none", ("commit",), "abort", True)):
                self.check((begun, "forced", aborted), own)
                self.check((begun, "none", aborted), own, "head committed")
                self.check((begun, "lazy", aborted), own, "head committed")
            self.check(("forced", "lazy", aborted), DONE, "head committed")
            self.check(("forced", "none", aborted), DONE, "head committed")
            self.check(("forced", "forced", aborted), DONE)

    def test_prepared(self):
        for prepared, words in (("none", ("prepared",)), ("lazy", ("prepared",)), ("forced", ())):
            self.check(THIN, manner(prepared, "forced", thanks=("commit",)), *words)
            self.check(THIN, manner(prepared, "forced", thanks=("commit",), sent=True))
            self.check(BEGUN, manner(prepared, "none", "forced", ("abort",), "commit"), *words)

    def test_abort_presumed(self):
        for prepared, sent in (("forced", False), ("forced", True), ("lazy", True), ("none", True)):
            for thanks in THANKS:
                words = () if "commit" in thanks else ("thanks commit",)
                for aborted in STRENGTHS:
                    self.check(THIN, manner(prepared, "forced", aborted, thanks, "abort", sent), *words)
                    self.check(THIN, manner(prepared, "lazy", aborted, thanks, "abort", sent), "committed", *words)
                    self.check(THIN, manner(prepared, "none", aborted, thanks, "abort", sent), "committed", *words)

    def test_begun(self):
        for begun, words in (("none", ("begun",)), ("lazy", ("begun",)), ("forced", ())):
            self.check((begun, "forced", "none"), DONE, *words)
            self.check((begun, "forced", "forced"), commit_with_work()[1], *words)
            self.check((begun, "forced", "none"), UNDONE)

    def test_thanks_abort(self):
        for thanks in THANKS:
            words = () if "abort" in thanks else ("thanks abort",)
            self.check(BEGUN, manner("forced", "none", "forced", thanks, "commit"), *words)
            self.check(BEGUN, manner("forced", "none", "forced", thanks, "commit", True), *words)

    def test_aborted(self):
        both = ("abort", "commit")
        for aborted, words in (("none", ("aborted",)), ("lazy", ("aborted",)), ("forced", ())):
            self.check(BEGUN, manner("forced", "none", aborted, ("abort",), "commit"), *words)
            self.check(BEGUN, manner("forced", "none", aborted, ("abort",), "commit", True), *words)
            self.check(BEGUN, manner("lazy", "forced", aborted, both, "commit", True), *words)
            # Who never writes prepared need not write aborted.
            self.check(BEGUN, manner("none", "forced", aborted, both, "commit", True))

    def test_commit_presumed_and_work_sent(self):
        both = ("abort", "commit")
        for prepared in ("none", "lazy"):
            self.check(BEGUN, manner(prepared, "forced", "forced", both, "commit", True))
            self.check(BEGUN, manner(prepared, "lazy", "forced", both, "commit", True), "committed")
            self.check(BEGUN, manner(prepared, "none", "forced", both, "commit", True), "committed")
            self.check(BEGUN, manner(prepared, "forced", "forced", ("abort",), "commit", True), "thanks commit")
            self.check(BEGUN, manner(prepared, "none", "forced", ("commit",), "commit", True), "committed", "thanks abort")
            self.check(BEGUN, manner(prepared, "none", "forced", ("abort",), "commit"), "prepared")
        self.check(BEGUN, manner("forced", "none", "forced", ("abort",), "commit", True))

    def test_several(self):
        self.check(("none",) * 3, manner("none"), "committed", "head committed", "prepared", "thanks commit")
        self.check(("none",) * 3, manner("lazy", presumed="commit"),
                   "aborted", "begun", "head committed", "prepared", "thanks abort")
        self.check(("lazy", "lazy", "none"), manner("lazy", presumed="commit", sent=True),
                   "aborted", "begun", "committed", "head committed", "thanks abort", "thanks commit")

    def test_all_ways(self):
        words, kinds = set(), set()
        for head in HEADS:
            for own in MANNERS:
                wanted = lacking(head, own)
                self.check(head, own, *wanted)
                words |= set(wanted)
                kinds.add(wanted)
        self.assertEqual(tuple(sorted(words)), ALL_WORDS)
        for word in ALL_WORDS:
            self.assertIn((word,), kinds)

    def test_calls(self):
        choice = random.Random(50)
        for _ in range(300):
            head, own = choice.choice(HEADS), choice.choice(MANNERS)
            called(self, lacks, lambda: lacks(FULL, DONE), head=head, manner=own)
            called(self, fits, lambda: fits(THIN, UNDONE), head=head, manner=own)


class SafeTest(unittest.TestCase):

    def test_many_that_fit(self):
        for protocol in safe_protocols(200, 51):
            self.assertIs(is_safe(protocol), True)

    def test_no_run_of_theirs_splits(self):
        choice = random.Random(59)
        told = set()
        for protocol in safe_protocols(250, 60, 1):
            for standing in standings_along(protocol, choice, 60):
                self.assertLess(len(standing[3]), 2, (protocol, standing))
                told |= set(standing[3])
        self.assertEqual(told, {"abort", "commit"})

    def test_one_that_does_harm(self):
        choice = random.Random(52)
        for protocol in safe_protocols(200, 53, 1):
            head, manners = protocol
            bad = choice.choice([own for own in MANNERS if lacking(head, own)])
            for i in range(len(manners) + 1):
                self.assertIs(is_safe((head, manners[:i] + (bad,) + manners[i:])), False, (head, manners, bad))

    def test_each_word_alone_does_harm(self):
        for word in ALL_WORDS:
            ways = [(head, own) for head in HEADS for own in MANNERS if lacking(head, own) == (word,)]
            for head, own in ways[::7]:
                for many in range(2, 7):
                    self.assertIs(is_safe(alike_for(head, own, many)), False, (head, own))
                for other in FIT[head][::5]:
                    self.assertIs(is_safe((head, (other, own))), False)
                    self.assertIs(is_safe((head, (own, other, other))), False)

    def test_two_by_search(self):
        """The main sentence of [D4], through all standings."""
        choice = random.Random(54)
        protocols = safe_protocols(25, 55, 2, 2)
        for _ in range(120):
            head = choice.choice(HEADS)
            protocols.append((head, (choice.choice(MANNERS), choice.choice(FIT[head] or MANNERS))))
        counted = {True: 0, False: 0}
        for protocol in protocols:
            safe = not ever_splits(protocol)
            counted[safe] += 1
            self.assertIs(is_safe(protocol), safe, protocol)
        self.assertGreater(min(counted.values()), 20)

    def test_two_of_each_word_by_search(self):
        choice = random.Random(56)
        for word in ALL_WORDS:
            ways = [(head, own) for head in HEADS for own in MANNERS if lacking(head, own) == (word,)]
            for head, own in choice.sample(ways, 6):
                other = choice.choice(FIT[head] or [own])
                for protocol in ((head, (own, other)), (head, (other, own))):
                    self.assertTrue(ever_splits(protocol), protocol)
                    self.assertIs(is_safe(protocol), False, protocol)

    def test_calls(self):
        for protocol in safe_protocols(40, 57, 1):
            called(self, is_safe, lambda: is_safe((THIN, (DONE, DONE))), protocol=protocol)
            called(self, is_safe, lambda: is_safe((THIN, (UNDONE,))), protocol=(THIN, protocol[1]))


class AloneTest(unittest.TestCase):

    def check(self, head, own, wanted):
        self.assertIs(is_safe((head, (own,))), wanted, (head, own))
        self.assertIs(ever_splits((head, (own,))), not wanted, (head, own))

    def test_each_condition_turned(self):
        for committed, thanks, sent in itertools.product(STRENGTHS, (("abort",), ("abort", "commit")), (False, True)):
            own = manner("forced", committed, "forced", thanks, "commit", sent)
            for head in (("none", "none", "forced"), ("none", "lazy", "forced"), ("lazy", "forced", "forced"),
                         ("none", "forced", "forced")):
                self.check(head, own, True)
                self.assertIs(is_safe((head, (own, own))), False)
                self.check(head[:2] + ("lazy",), own, False)
                self.check(head[:2] + ("none",), own, False)
                self.check(head, ("lazy",) + own[1:], False)
                self.check(head, ("none",) + own[1:], False)
                self.check(head, own[:2] + ("lazy",) + own[3:], False)
                self.check(head, own[:2] + ("none",) + own[3:], False)
                self.check(head, own[:3] + (thanks[1:],) + own[4:], False)
            for begun in ("lazy", "forced"):
                self.check((begun, "none", "forced"), own, False)
                self.check((begun, "lazy", "forced"), own, False)

    def test_abort_presumed(self):
        # What is told of one alone is told of those alone for which commit is presumed.
        own = manner("forced", "none", "forced", ("abort",), "abort")
        self.check(("none", "forced", "forced"), own, False)
        self.check(("none", "forced", "forced"), UNDONE, True)
        self.check(("none", "none", "forced"), UNDONE, False)

    def test_those_that_fit(self):
        for head in HEADS:
            for own in FIT[head]:
                self.assertIs(is_safe((head, (own,))), True)
        for presumed in ("abort", "commit"):
            self.assertIs(is_safe(alike_for(*all_forced(presumed), 1)), True)

    def test_all_ways_as_told(self):
        more = 0
        for head in HEADS:
            for own in MANNERS:
                wanted = lone_is_safe(head, own)
                self.assertIs(is_safe((head, (own,))), wanted, (head, own))
                more += wanted and bool(lacking(head, own))
        self.assertGreater(more, 10)

    def test_by_search(self):
        choice = random.Random(58)
        ways = [(head, own) for head in HEADS for own in MANNERS]
        safe = [way for way in ways if lone_is_safe(*way)]
        near = [way for way in ways if way[1][4] == "commit" and len(lacking(*way)) in (1, 2)]
        for head, own in choice.sample(safe, 60) + choice.sample(near, 300) + choice.sample(ways, 600):
            self.assertIs(ever_splits((head, (own,))), not is_safe((head, (own,))), (head, own))

    def test_presumed_commit_without_begun(self):
        head, own = presumed_commit()
        for begun in ("none", "lazy"):
            self.check((begun, "forced", "none"), own, False)
            self.check((begun, "forced", "forced"), own, True)


if __name__ == "__main__":
    unittest.main()
