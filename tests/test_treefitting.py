"""[J3], [J4]: what edges lack, and which trees are safe."""

import itertools
import random
import unittest

from doubtbooks.fitting import is_safe, lacks
from doubtbooks.treefitting import edge_lacks, is_safe_tree
from tests.helping import (
    ENDS, HEADS, STRENGTHS, THANKS, THIN, called, drawn_tree, edge_lacking, is_sound_tree, same, shapes, some_trees)

BEGUN = ("forced", "forced", "none")
LEAF = (1, "none", "forced", "forced", "none", ("commit",), "abort", False)
SURE = (1, "none", "forced", "none", "forced", ("abort",), "commit", False)
MIDDLE = (0, "forced", "forced", "forced", "none", ("commit",), "abort", True)
HANDED = (0, "none", "forced", "none", "forced", ("abort",), "commit", False)
HOUSE = (BEGUN, (MIDDLE, LEAF, SURE))
# One that is alone below the root, and fits it for being alone.
ALONE = (("none", "none", "forced"), (HANDED,))


def below_root(entry):
    return (0,) + entry[1:]


def entries_of(upper, begun="none", late=False):
    """All entries below this node, but for begun and late."""
    return [(upper, begun, *rows, thanks, presumed, late) for rows in itertools.product(STRENGTHS, repeat=3)
            for thanks in THANKS for presumed in ENDS]


class EdgeLacksTest(unittest.TestCase):

    def check(self, tree, node):
        told = edge_lacks(tree, node)
        self.assertTrue(same(told, edge_lacking(tree, node)), (tree, node, told))
        return told

    def test_each_entry_below_each_head(self):
        met = set()
        for head in HEADS:
            for entry in entries_of(0):
                met |= set(self.check((head, (entry, below_root(LEAF))), 1))
        self.assertEqual(met, {"prepared", "committed", "thanks commit", "begun", "aborted", "thanks abort"})

    def test_each_entry_below_a_middle_one(self):
        for begun, late in itertools.product(STRENGTHS, (False, True)):
            for entry in entries_of(1):
                self.check((THIN, ((0, begun) + MIDDLE[2:7] + (late,), entry)), 2)

    def test_each_middle_one(self):
        for begun, late in itertools.product(STRENGTHS, (False, True)):
            for entry in entries_of(0, begun, late):
                self.check((BEGUN, (entry, LEAF)), 1)

    def test_each_word_alone(self):
        spoiled = {
            (2, "lazy", LEAF): "prepared", (3, "lazy", LEAF): "committed", (5, ("abort",), LEAF): "thanks commit",
            (2, "none", SURE): "prepared", (4, "lazy", SURE): "aborted", (5, ("commit",), SURE): "thanks abort"}
        for (place, part, entry), word in spoiled.items():
            entry = entry[:place] + (part,) + entry[place + 1:]
            self.assertEqual(self.check((THIN, (MIDDLE, entry)), 2), (word,))
            self.assertEqual(self.check((BEGUN, (below_root(entry),)), 1), (word,))
        for begun in ("none", "lazy"):
            self.assertEqual(self.check((BEGUN, ((0, begun) + MIDDLE[2:], SURE)), 2), ("begun",))
            self.assertEqual(self.check(((begun, "forced", "none"), (below_root(SURE),)), 1), ("begun",))

    def test_all_that_can_be_lacking(self):
        bare = ("none", "none", "none", (), "abort", False)
        self.assertEqual(self.check((THIN, ((0, "none") + bare,)), 1), ("committed", "prepared", "thanks commit"))
        bare = bare[:4] + ("commit", False)
        self.assertEqual(self.check((THIN, ((0, "none") + bare,)), 1), ("aborted", "begun", "prepared", "thanks abort"))

    def test_what_does_not_matter(self):
        """[J4]: of the node above begun alone matters, and that only where commit is presumed."""
        choice = random.Random(310)
        for tree in some_trees(200, 311, 2):
            head, entries = tree
            node = choice.choice([k for k in range(1, len(entries) + 1)])
            upper = entries[node - 1][0]
            other = (head[0],) + tuple(choice.choice(STRENGTHS) for _ in range(2))
            changed = list(entries)
            for k in range(len(entries)):
                if k + 1 == upper:
                    changed[k] = entries[k][:2] + entries_of(0)[choice.randrange(216)][2:7] + (not entries[k][7],)
                elif k + 1 != node:
                    changed[k] = entries[k][:2] + entries_of(0)[choice.randrange(216)][2:7] + entries[k][7:]
            self.assertEqual(edge_lacks((other, tuple(changed)), node), edge_lacks(tree, node))

    def test_drawn_ones(self):
        for tree in some_trees(500, 312):
            for node in range(1, len(tree[1]) + 1):
                self.check(tree, node)

    def test_calls(self):
        for tree in some_trees(40, 313):
            for node in range(1, len(tree[1]) + 1):
                called(self, edge_lacks, lambda: edge_lacks(HOUSE, 3), tree=tree, node=node)


class IsSafeTreeTest(unittest.TestCase):

    def check(self, tree):
        told = is_safe_tree(tree)
        self.assertIs(told, is_sound_tree(tree), tree)
        return told

    def test_each_tree_of_one_node(self):
        count = 0
        for head in HEADS:
            for entry in entries_of(0):
                count += self.check((head, (entry,)))
        self.assertEqual(count, 96)

    def test_one_node_as_a_protocol_of_one(self):
        for head in HEADS:
            for entry in entries_of(0):
                self.assertEqual(is_safe_tree((head, (entry,))), is_safe((head, (entry[2:7] + (False,),))))

    def test_flat_ones_as_protocols(self):
        """[J4]: no work being sent."""
        safe = 0
        for tree in some_trees(2500, 314, 1, 6, (0, 0.9, 0.97, 1)):
            flat = (tree[0], tuple((0, "none") + entry[2:7] + (False,) for entry in tree[1]))
            protocol = (tree[0], tuple(entry[2:7] + (False,) for entry in tree[1]))
            self.assertEqual(self.check(flat), is_safe(protocol))
            safe += is_safe(protocol)
            for node, entry in enumerate(flat[1], 1):
                # A row prepared that is not written is lacking in both, and aborted in a tree, too.
                if entry[2] != "none":
                    words = [word for word in lacks(tree[0], entry[2:7] + (False,)) if word != "head committed"]
                    self.assertEqual(edge_lacks(flat, node), tuple(words))
        self.assertGreater(safe, 400)

    def test_drawn_ones(self):
        met = {True: 0, False: 0}
        for tree in some_trees(3000, 315, 1, 7, (0.6, 0.9, 0.97, 1)):
            met[self.check(tree)] += 1
        self.assertGreater(min(met.values()), 700)

    def test_one_part_spoiled(self):
        """Of a safe tree each part of each node, exchanged for each other one."""
        for tree in (HOUSE, (BEGUN, (MIDDLE, LEAF, below_root(SURE))), (BEGUN, (below_root(SURE), LEAF)), ALONE,
                     (ALONE[0], (HANDED, LEAF, (2,) + LEAF[1:]))):
            self.assertTrue(self.check(tree))
            head, entries = tree
            for k, entry in enumerate(entries):
                for place, parts in ((1, STRENGTHS), (2, STRENGTHS), (3, STRENGTHS), (4, STRENGTHS), (5, THANKS),
                                     (6, ENDS), (7, (False, True))):
                    for part in parts:
                        if place in (1, 7) and k + 1 not in [each[0] for each in entries]:
                            continue
                        other = entry[:place] + (part,) + entry[place + 1:]
                        self.check((head, entries[:k] + (other,) + entries[k + 1:]))
            for other in HEADS:
                self.check((other, entries))

    def test_alone_below_the_root(self):
        counted = {True: 0, False: 0}
        for head in HEADS:
            for entry in entries_of(0) + entries_of(0, "forced", True)[::5]:
                for more in ((LEAF,), ((1,) + SURE[1:],), (LEAF, (2,) + LEAF[1:])):
                    if more[-1][0] == 2:
                        more = ((1, "lazy") + more[0][2:],) + more[1:]
                    counted[self.check((head, (entry,) + more))] += 1
        self.assertGreater(min(counted.values()), 200)
        # With a second node below the root it is safe no more.
        self.assertTrue(self.check((ALONE[0], (HANDED, LEAF))))
        self.assertFalse(self.check((ALONE[0], (HANDED, LEAF, below_root(LEAF)))))
        self.assertFalse(self.check((ALONE[0], (HANDED, LEAF[:3] + ("lazy",) + LEAF[4:]))))
        self.assertFalse(self.check((("lazy", "none", "forced"), (HANDED, LEAF))))
        self.assertTrue(self.check((("lazy", "forced", "forced"), (HANDED, LEAF))))

    def test_all_shapes(self):
        choice = random.Random(316)
        for many in range(1, 6):
            for uppers in shapes(many):
                self.check(drawn_tree(choice, uppers, 1))
                tree = (BEGUN, tuple((upper, "forced" if node in uppers else "none") + choice.choice((LEAF, SURE))[2:]
                                     for node, upper in enumerate(uppers, 1)))
                self.assertTrue(self.check(tree), tree)

    def test_calls(self):
        for tree in some_trees(60, 317, 1, 7, (0.6, 1)):
            called(self, is_safe_tree, lambda: is_safe_tree(ALONE), tree=tree)


if __name__ == "__main__":
    unittest.main()
