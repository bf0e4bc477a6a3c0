"""[J4], [J8], [J9]: losing runs of trees, their judging, and that safe trees never split."""

import itertools
import random
import unittest

from doubtbooks.splitting import splitting
from doubtbooks.treefitting import is_safe_tree
from doubtbooks.treemoving import after_tree, led_tree, open_tree, start_tree
from doubtbooks.treesplits import splitting_tree, splitting_tree_error
from tests.helping import (
    ENDS, HEADS, STRENGTHS, THANKS, THIN, PlainTree, Unchanged, any_values, called, changed_parts, drawn_tree,
    edge_lacking, is_sound_tree, safe_trees, same, shapes, some_trees, tree_levels, tree_walk)

LINK = (0, "none", "forced", "forced", "none", ("commit",), "abort", False)
TIP = (1, "none", "forced", "forced", "none", ("commit",), "abort", False)
WEAK = (1, "none", "forced", "lazy", "none", ("commit",), "abort", False)
BLIND = (1, "none", "forced", "none", "forced", ("abort",), "commit", False)
HANDED = (0,) + BLIND[1:]
CHAIN, FRAIL = (THIN, (LINK, TIP)), (THIN, (LINK, WEAK))
FATAL = (
    ("begin",), ("forward", 1), ("yes", 2), ("count", 2), ("count", 1), ("hear", 1, "commit"), ("hear", 2, "commit"),
    ("thanked", 2), ("fall", 2, 1), ("ask", 2), ("hear", 2, "abort"))
BOTH = ("abort", "commit")
# For each word an entry that lacks it alone, below a node that forces begun.
SPOILED = {
    "prepared": ("lazy", "forced", "none", ("commit",), "abort"),
    "committed": ("forced", "lazy", "none", ("commit",), "abort"),
    "thanks commit": ("forced", "forced", "none", ("abort",), "abort"),
    "aborted": ("forced", "none", "lazy", ("abort",), "commit"),
    "thanks abort": ("forced", "none", "forced", ("commit",), "commit")}


def by_hand(tree, value):
    """[J8] once more, by the second reading of the table."""
    if not isinstance(value, tuple):
        return "form"
    plain = PlainTree(tree)
    for k, deed in enumerate(value):
        if not [each for each in plain.all_deeds() if same(each, deed)] or not plain.can(deed):
            return ("deed", k)
        plain.do(deed)
    if plain.told != {"abort", "commit"}:
        return "whole"
    return None if len(value) <= 4 * len(tree[1]) + 4 else "long"


def ever_splits_tree(tree):
    """Whether any run comes to a split, by going through all standings until one is met."""
    met, waiting = {start_tree(tree)}, [start_tree(tree)]
    while waiting:
        standing = waiting.pop()
        if len(standing[2]) == 2:
            return True
        for deed in open_tree(tree, standing):
            behind = after_tree(tree, standing, deed)
            if behind not in met:
                met.add(behind)
                waiting.append(behind)
    return False


def put(tree, node, begun, late, own):
    """The tree with this entry for this node; begun and late for a middle one alone."""
    head, entries = tree
    is_middle = node in [entry[0] for entry in entries]
    entry = (entries[node - 1][0], begun if is_middle else "none") + own + (late and is_middle,)
    return (head, entries[:node - 1] + (entry,) + entries[node:])


def leaf_entries():
    return [(0, "none", *rows, thanks, presumed, False) for rows in itertools.product(STRENGTHS, repeat=3)
            for thanks in THANKS for presumed in ENDS]


class SplittingTreeTest(unittest.TestCase):

    def check(self, tree):
        """Looks at what is told of a tree; whether it is safe."""
        run = splitting_tree(tree)
        if is_sound_tree(tree):
            self.assertIsNone(run, tree)
            self.assertTrue(is_safe_tree(tree))
            return True
        self.assertIsInstance(run, tuple, tree)
        self.assertLessEqual(len(run), 4 * len(tree[1]) + 4)
        self.assertIsNone(by_hand(tree, run), (tree, run))
        self.assertIsNone(splitting_tree_error(tree, run), (tree, run))
        self.assertEqual(led_tree(tree, run)[2], BOTH)
        self.assertFalse(is_safe_tree(tree))
        return False

    def test_each_tree_of_one_node(self):
        for head, entry in itertools.product(HEADS, leaf_entries()):
            self.check((head, (entry,)))

    def test_as_long_as_the_protocol_has_it(self):
        for head, entry in itertools.product(HEADS, leaf_entries()[::5]):
            protocol = (head, (entry[2:7] + (False,),) * 2)
            self.assertEqual(splitting(protocol) is None, splitting_tree((head, (entry, entry))) is None)

    def test_drawn_ones(self):
        met = {True: 0, False: 0}
        for tree in some_trees(4000, 340):
            met[self.check(tree)] += 1
        self.assertGreater(min(met.values()), 300)

    def test_each_word_alone_at_each_node_of_each_shape(self):
        choice = random.Random(341)
        met = set()
        for uppers in [shape for many in range(1, 5) for shape in shapes(many)]:
            for late, (word, own) in itertools.product((False, True), SPOILED.items()):
                tree = drawn_tree(choice, uppers, 1)
                for node in range(1, len(uppers) + 1):
                    spoiled = put(tree, node, "forced", late, own)
                    self.assertEqual(edge_lacking(spoiled, node), (word,))
                    met.add((self.check(spoiled), word))
        self.assertEqual(met, {(False, word) for word in SPOILED})

    def test_greater_ones_with_one_word(self):
        choice = random.Random(342)
        for _ in range(600):
            many = choice.randint(5, 7)
            uppers = tuple(choice.randrange(node) for node in range(1, many + 1))
            tree = drawn_tree(choice, uppers, 1)
            for node in choice.sample(range(1, many + 1), 2):
                self.check(put(tree, node, "forced", choice.random() < 0.5, choice.choice(list(SPOILED.values()))))

    def test_begun(self):
        choice = random.Random(343)
        found = 0
        for uppers in [shape for many in range(1, 5) for shape in shapes(many)]:
            for begun in ("none", "lazy"):
                head, entries = drawn_tree(choice, uppers, 1)
                found += not self.check(((begun,) + head[1:], entries))
                for node in sorted(set(uppers) - {0}):
                    entry = entries[node - 1]
                    other = entries[:node - 1] + ((entry[0], begun) + entry[2:],) + entries[node:]
                    found += not self.check((head, other))
        self.assertGreater(found, 40)

    def test_head_committed(self):
        choice = random.Random(344)
        for uppers in [shape for many in range(1, 5) for shape in shapes(many)]:
            for begun, committed, aborted in itertools.product(STRENGTHS, ("none", "lazy"), STRENGTHS):
                self.check(((begun, committed, aborted), drawn_tree(choice, uppers, 1)[1]))

    def test_one_alone_below_the_root(self):
        choice = random.Random(345)
        met = {True: 0, False: 0}
        for head in HEADS:
            for entry in leaf_entries()[::3] + [HANDED] * 12:
                tip = choice.choice((TIP, WEAK, BLIND, TIP))
                met[self.check((head, ((0, choice.choice(STRENGTHS)) + entry[2:], tip)))] += 1
        self.assertGreater(min(met.values()), 50)

    def test_longest(self):
        # Late ones hand their thanks up only when all below them have thanked.
        chain = (("forced",) * 3, tuple(
            (node - 1, "none" if node == 7 else "forced", "forced", "forced", "forced", BOTH, "abort", node < 7)
            for node in range(1, 8)))
        self.assertTrue(self.check(chain))
        lazy = (chain[0], ((0, "forced", "forced", "lazy", "forced", BOTH, "abort", True),) + chain[1][1:])
        self.assertFalse(self.check(lazy))
        self.assertEqual(len(splitting_tree(lazy)), 32)
        undone = (chain[0], ((0, "forced", "forced", "forced", "lazy", BOTH, "commit", True),) + chain[1][1:])
        self.assertFalse(self.check(undone))

    def test_calls(self):
        for tree in some_trees(80, 346, 1, 7, (0.6, 0.97, 1)):
            called(self, splitting_tree, lambda: splitting_tree(FRAIL), tree=tree)


class EverSplitsTest(unittest.TestCase):
    """[J3], [J9]: MAIN, by going through all standings."""

    def check(self, tree):
        self.assertEqual(ever_splits_tree(tree), not is_safe_tree(tree), tree)

    def test_each_tree_of_one_node(self):
        for head, entry in itertools.product(HEADS, leaf_entries()):
            if not is_safe_tree((head, (entry,))):
                # A losing run is told of these.
                continue
            self.check((head, (entry,)))

    def test_safe_ones_of_two(self):
        for tree in safe_trees(60, 350, 2, 2):
            self.check(tree)

    def test_safe_ones_of_three(self):
        met = set()
        for tree in safe_trees(14, 351, 3, 3):
            met.add(tuple(entry[0] for entry in tree[1]))
            self.check(tree)
        self.assertGreater(len(met), 3)

    def test_those_that_are_safe_as_one_alone(self):
        heads = [head for head in HEADS if head[2] == "forced" and (head[0] == "none" or head[1] == "forced")]
        for head in heads:
            for begun, committed, thanks, late in itertools.product(
                    ("none", "forced"), STRENGTHS, (("abort",), BOTH), (False, True)):
                first = (0, begun, "forced", committed, "forced", thanks, "commit", late)
                tree = (head, (first, TIP))
                self.assertTrue(is_safe_tree(tree))
                if committed != "lazy" and (late or thanks == BOTH):
                    self.check(tree)
        self.check((heads[0], (HANDED, TIP, (2,) + TIP[1:])))

    def test_of_two_all_kinds(self):
        choice = random.Random(352)
        for uppers in shapes(2):
            for sound in (0.5, 0.8, 0.9, 0.97):
                for _ in range(12):
                    self.check(drawn_tree(choice, uppers, sound))


class SplittingTreeErrorTest(unittest.TestCase):

    def check(self, tree, value, wanted):
        self.assertTrue(same(splitting_tree_error(tree, value), wanted), (tree, value, wanted))

    def test_form(self):
        for value in any_values() + [list(FATAL), [], "begin", {}]:
            with Unchanged(self, value):
                if not isinstance(value, tuple):
                    self.check(FRAIL, value, "form")

    def test_any_value(self):
        for tree in (FRAIL, CHAIN):
            for value in any_values():
                self.check(tree, value, by_hand(tree, value))
                self.check(tree, (value,), ("deed", 0))

    def test_each_beginning(self):
        for k in range(len(FATAL)):
            self.check(FRAIL, FATAL[:k], "whole")
            self.check(FRAIL, FATAL[k + 1:], by_hand(FRAIL, FATAL[k + 1:]))
        self.check(FRAIL, FATAL, None)

    def test_long(self):
        for more, wanted in ((1, None), (2, "long"), (3, "long"), (4000, "long")):
            self.check(FRAIL, FATAL + (("fall", 0, 1),) * more, wanted)
        self.check(CHAIN, FATAL[:5] + (("fall", 0, 1),) * 4000, "whole")
        self.check(CHAIN, FATAL[:5] + (("fall", 0, 1),) * 3000 + (None,), ("deed", 3005))

    def test_in_the_order_told(self):
        late = FATAL + (("fall", 0, 1),) * 2
        self.check(FRAIL, list(late), "form")
        self.check(FRAIL, late + (None,), ("deed", 13))
        self.check(FRAIL, (None,) + late + (None,), ("deed", 0))
        self.check(FRAIL, FATAL[:5] + (("fall", 0, 1),) * 20, "whole")

    def test_a_deed_exchanged(self):
        values = any_values() + [("begin",), ("yes", True), ("count", 0), ["begin"], ("hear", 2, "none"), ("fall", 2, 3)]
        for k in range(len(FATAL)):
            for value in values:
                other = FATAL[:k] + (value,) + FATAL[k + 1:]
                self.check(FRAIL, other, by_hand(FRAIL, other))

    def test_changed_parts(self):
        for value in changed_parts(FATAL, (None, True, 0, 1, 2, "commit", "ask", ("quit", 0))):
            self.check(FRAIL, value, by_hand(FRAIL, value))

    def test_bools_are_no_numbers(self):
        blind = (THIN, (LINK, BLIND))
        run = (("begin",), ("forward", 1), ("yes", 2), ("fall", 1, 0), ("ask", 2), ("hear", 2, "commit"))
        self.check(blind, run, None)
        self.check(blind, run[:1] + (("forward", True),) + run[2:], ("deed", 1))
        self.check(blind, run[:3] + (("fall", 1, False),) + run[4:], ("deed", 3))

    def test_safe_ones(self):
        """[J9]: with every value something is wrong."""
        choice = random.Random(360)
        runs = [splitting_tree(tree) for tree in some_trees(40, 361)]
        for tree in safe_trees(40, 362):
            for value in any_values() + [run for run in runs if run is not None]:
                self.assertIsNotNone(splitting_tree_error(tree, value))
            for value in runs:
                self.check(tree, value, by_hand(tree, value))
            run = tuple(deed for standing, deed, behind in tree_walk(tree, choice, 60))
            self.check(tree, run, "whole")

    def test_along_runs(self):
        choice = random.Random(363)
        split = 0
        for tree in some_trees(250, 364, 1, 4):
            run = tuple(deed for standing, deed, behind in tree_walk(tree, choice, 30))
            for many in range(0, len(run) + 1, 4):
                wanted = by_hand(tree, run[:many])
                split += wanted in (None, "long")
                self.check(tree, run[:many], wanted)
        self.assertGreater(split, 100)

    def test_calls(self):
        for tree in some_trees(40, 365):
            run = splitting_tree(tree) or FATAL
            for value in (run, run[:-1], run + run, list(run), None, ()):
                called(self, splitting_tree_error, lambda: splitting_tree_error(FRAIL, FATAL), tree=tree, value=value)


class SafeOnesTest(unittest.TestCase):

    def test_nothing_splits_along_runs(self):
        choice = random.Random(370)
        ends = set()
        for tree in safe_trees(250, 371):
            for standing, deed, behind in tree_walk(tree, choice, 70):
                self.assertLess(len(behind[2]), 2, (tree, behind))
                ends.add(behind[2])
        self.assertEqual(ends, {(), ("abort",), ("commit",)})

    def test_no_standing_of_a_chain_is_split(self):
        for level in tree_levels(CHAIN):
            for standing in level:
                self.assertLess(len(standing[2]), 2)


if __name__ == "__main__":
    unittest.main()
