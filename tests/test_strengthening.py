"""[D3], [D4]: the least ways, what is needless, and the fewest steps up."""

import itertools
import random
import unittest

from doubtbooks.fitting import fits, is_safe
from doubtbooks.knownways import abort_with_work, all_forced, commit_with_work, presumed_abort, presumed_commit
from doubtbooks.protocols import alike_for, protocol_error
from doubtbooks.strengthening import fewest_steps, least_ways, needless
from tests.helping import (
    DONE, FIT, HEADS, MANNERS, STRENGTHS, THIN, UNDONE, called, lacking, safe_protocols, same, some_protocols)

BARE = ("none", "none", "none", (), "abort", False)
KNOWN = (presumed_abort(), abort_with_work(), presumed_commit(), commit_with_work())


def weaker(way, other):
    """Whether way is weaker than other, or the same, as [D3] tells."""
    (head, own), (high, above) = way, other
    strengths = list(zip(head + own[:3], high + above[:3]))
    return (own[4] == above[4] and all(STRENGTHS.index(low) <= STRENGTHS.index(up) for low, up in strengths)
            and set(own[3]) <= set(above[3]) and (above[5] or not own[5]))


def entries(protocol):
    """Each entry of protocol, and how many steps up from nothing it stands."""
    head, manners = protocol
    found = {("head", word): STRENGTHS.index(head[k]) for k, word in enumerate(("begun", "committed", "aborted"))}
    for i, own in enumerate(manners):
        for k, word in enumerate(("prepared", "committed", "aborted")):
            found["manner", i, word] = STRENGTHS.index(own[k])
        for end in ("abort", "commit"):
            found["manner", i, "thanks " + end] = int(end in own[3])
        found["manner", i, "sent"] = int(own[5])
    return found


def built(steps, protocol):
    """The protocol with entries so many steps up, and the presumed ends of this one."""
    def strength(*entry):
        return STRENGTHS[steps[entry]]

    manners = []
    for i, own in enumerate(protocol[1]):
        thanks = tuple(end for end in ("abort", "commit") if steps["manner", i, "thanks " + end])
        manners.append((
            strength("manner", i, "prepared"), strength("manner", i, "committed"), strength("manner", i, "aborted"),
            thanks, own[4], bool(steps["manner", i, "sent"])))
    return (strength("head", "begun"), strength("head", "committed"), strength("head", "aborted")), tuple(manners)


def moved(protocol, entry, by):
    """The protocol with this entry moved by a step, or None if there is no such step."""
    steps = entries(protocol)
    steps[entry] += by
    most = 1 if entry[-1] == "sent" or entry[-1].startswith("thanks") else 2
    return built(steps, protocol) if 0 <= steps[entry] <= most else None


def steps_between(low, high):
    """How many steps up lead from the one to the other; None if others are needed."""
    one, other = entries(low), entries(high)
    if [own[4] for own in low[1]] != [own[4] for own in high[1]] or any(other[entry] < one[entry] for entry in one):
        return None
    return sum(other[entry] - one[entry] for entry in one)


def searched_steps(protocol, most):
    """The least number of steps up to a safe protocol, at most so many; None if more are needed."""
    level = {protocol}
    for many in range(most + 1):
        if any(is_safe(each) for each in level):
            return many
        higher = {moved(each, entry, 1) for each in level for entry in entries(each)}
        level = higher - {None}
    return None


class LeastWaysTest(unittest.TestCase):

    def test_the_known_ones(self):
        self.assertTrue(same(least_ways(), tuple(sorted(KNOWN))))
        self.assertEqual([way for way in KNOWN if not fits(*way)], [])

    def test_by_search(self):
        fit = [(head, own) for head in HEADS for own in FIT[head]]
        least = [way for way in fit if not any(weaker(other, way) and other != way for other in fit)]
        self.assertTrue(same(least_ways(), tuple(sorted(least))))

    def test_above_them(self):
        """[D4]: what a way above a least one lacks."""
        above = 0
        for head, own in itertools.product(HEADS, MANNERS):
            if any(weaker(way, (head, own)) for way in least_ways()):
                above += 1
                odd = own[4] == "commit" and own[0] != "none" and own[2] != "forced"
                self.assertEqual(lacking(head, own), ("aborted",) if odd else (), (head, own))
                self.assertIs(fits(head, own), not odd)
            else:
                self.assertFalse(fits(head, own), (head, own))
        self.assertGreater(above, 100)

    def test_calls(self):
        called(self, least_ways, lambda: needless((THIN, (UNDONE, UNDONE))))


class NeedlessTest(unittest.TestCase):

    def check(self, protocol):
        wanted = []
        for entry in entries(protocol):
            lower = moved(protocol, entry, -1)
            if lower is not None and is_safe(lower):
                wanted.append(entry)
        self.assertTrue(same(needless(protocol), tuple(sorted(wanted))), protocol)
        return wanted

    def test_least_ways(self):
        """[D4]: of many of one least way nothing is needless."""
        for way in KNOWN:
            for many in range(2, 7):
                self.assertEqual(needless(alike_for(*way, many)), ())
        for way in KNOWN:
            self.assertEqual(needless(alike_for(*way, 1)), ())

    def test_each_entry(self):
        forced = alike_for(*all_forced("abort"), 2)
        self.assertEqual(needless(forced), (
            ("head", "aborted"), ("head", "begun"), ("manner", 0, "aborted"), ("manner", 0, "thanks abort"),
            ("manner", 1, "aborted"), ("manner", 1, "thanks abort")))
        forced = alike_for(*all_forced("commit"), 2)
        self.assertEqual(needless(forced), (
            ("head", "aborted"), ("manner", 0, "committed"), ("manner", 0, "thanks commit"), ("manner", 1, "committed"),
            ("manner", 1, "thanks commit")))
        # Either of two is needless, though not both.
        work = (THIN, (UNDONE, UNDONE[:5] + (True,)))
        self.assertEqual(needless(work), (("manner", 1, "prepared"), ("manner", 1, "sent")))

    def test_one_alone(self):
        own = ("forced", "none", "forced", ("abort",), "commit", False)
        self.assertEqual(needless((("none", "none", "forced"), (own,))), ())
        self.assertEqual(needless((("none", "forced", "forced"), (own,))), (("head", "committed"),))
        self.assertEqual(needless((("forced", "forced", "forced"), (own,))), (("head", "aborted"), ("head", "begun")))
        # Leaving begun lazy needs committed; leaving it out does not.
        self.assertEqual(needless((("lazy", "forced", "forced"), (own,))), (("head", "begun"),))

    def test_by_search(self):
        met = set()
        for protocol in safe_protocols(250, 60) + safe_protocols(150, 61, 1, 1):
            met |= {entry[-1] for entry in self.check(protocol)}
        self.assertEqual(len(met), 7)

    def test_unfit(self):
        choice = random.Random(62)
        for protocol in safe_protocols(60, 63, 1):
            head, manners = protocol
            i = choice.randrange(len(manners))
            bad = choice.choice([own for own in MANNERS if lacking(head, own)])
            unsafe = (head, manners[:i] + (bad,) + manners[i + 1:])
            if not is_safe(unsafe):
                told = called(self, needless, lambda: needless(protocol), protocol=unsafe)
                self.assertEqual(told, ("raised", "Unfit", {}))
        self.assertEqual(called(self, needless, least_ways, protocol=(("none", "none", "forced"), (DONE, DONE))),
                         ("raised", "Unfit", {}))

    def test_calls(self):
        for protocol in safe_protocols(40, 64, 1):
            called(self, needless, lambda: needless((THIN, (UNDONE,))), protocol=protocol)


class FewestStepsTest(unittest.TestCase):

    def check(self, protocol, wanted=None):
        steps, higher = fewest_steps(protocol)
        if wanted is not None:
            self.assertTrue(same(steps, wanted), (protocol, steps))
        self.assertIsNone(protocol_error(higher))
        self.assertTrue(is_safe(higher), (protocol, higher))
        self.assertEqual(steps_between(protocol, higher), steps, (protocol, higher))
        return steps

    def test_safe_already(self):
        for protocol in safe_protocols(100, 65, 1) + [(("none", "none", "forced"), (DONE,))]:
            self.assertTrue(same(fewest_steps(protocol), (0, protocol)))

    def test_known_numbers(self):
        for many in range(1, 7):
            self.check((("none", "none", "none"), (BARE,) * many), 2 + 4 * many)
            self.check((("none", "lazy", "none"), (BARE,) * many), 1 + 4 * many)
            self.check((THIN, (UNDONE,) * many), 0)
            self.check((THIN, (UNDONE[:3] + ((), "abort", False),) * many), many)
            if many > 1:
                self.check((("none", "none", "none"), (DONE,) * many), 4)
                self.check((THIN, (UNDONE,) * (many - 1) + (DONE,)), 2)
        self.check((("none", "none", "none"), (DONE,)), 2)

    def test_sent_or_prepared(self):
        own = ("forced", "none", ("commit",), "abort", False)
        self.check((THIN, (UNDONE, ("none",) + own)), 1)
        self.check((THIN, (UNDONE, ("lazy",) + own)), 1)
        # Commit presumed: with work sent committed has to be forced, and thanked for.
        for prepared, aborted, sent, wanted in (
                ("none", "forced", False, 2), ("lazy", "forced", False, 1), ("none", "none", True, 3),
                ("none", "none", False, 4), ("lazy", "none", False, 3), ("lazy", "lazy", True, 2)):
            own = (prepared, "none", aborted, ("abort",), "commit", sent)
            self.check((("forced", "forced", "none"), (UNDONE, own)), wanted)

    def test_one_alone(self):
        own = ("forced", "none", "forced", ("abort",), "commit", False)
        for head, wanted in ((("none", "none", "none"), 2), (("none", "none", "lazy"), 1), (("lazy", "none", "none"), 3),
                             (("lazy", "forced", "none"), 1), (("lazy", "lazy", "lazy"), 2), (("forced", "none", "forced"), 2),
                             (("none", "lazy", "lazy"), 1), (("lazy", "none", "forced"), 2)):
            self.check((head, (own,)), wanted)

    def test_by_search(self):
        choice = random.Random(66)
        protocols = [(choice.choice(HEADS), (choice.choice(MANNERS),)) for _ in range(60)]
        for _ in range(150):
            head = choice.choice(HEADS)
            many = choice.randint(1, 3)
            own = [choice.choice(FIT[head] or FIT[THIN]) for _ in range(many)]
            own[choice.randrange(many)] = choice.choice(MANNERS)
            protocols.append((head, tuple(own)))
        known = 0
        for protocol in protocols:
            steps = self.check(protocol)
            most = 9 if len(protocol[1]) == 1 else 3
            searched = searched_steps(protocol, min(steps, most))
            if steps <= most:
                self.assertEqual(searched, steps, protocol)
                known += 1
            else:
                self.assertIsNone(searched, protocol)
        self.assertGreater(known, 100)

    def test_all_sizes(self):
        sizes = set()
        for protocol in some_protocols(200, 67):
            sizes.add(len(protocol[1]))
            self.check(protocol)
        self.assertEqual(sizes, set(range(1, 7)))

    def test_each_place_counts(self):
        # Two participants and more: the steps are those of the head, and of each one beside it.
        for protocol in some_protocols(60, 68):
            head, manners = protocol
            if len(manners) == 1:
                continue
            presumes = any(own[4] == "commit" for own in manners)
            higher = ("forced" if presumes else head[0], "forced", head[2])
            wanted = steps_between((head, ()), (higher, ()))
            for own in manners:
                wanted += self.check((higher, (own, own))) // 2
            self.check(protocol, wanted)

    def test_calls(self):
        for protocol in some_protocols(30, 69):
            called(self, fewest_steps, lambda: fewest_steps((THIN, (BARE,))), protocol=protocol)


if __name__ == "__main__":
    unittest.main()
