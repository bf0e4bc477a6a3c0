"""[J1], [J2]: trees, what is wrong with what is none, and the nodes below a node."""

import random
import unittest

from doubtbooks.trees import below, tree_error
from tests.helping import (
    ENDS, HEADS, STRENGTHS, THANKS, THIN, UNDONE, USUAL, Unchanged, any_values, called, changed_parts, same, shapes,
    some_trees)

LEAF = (1, "none", "forced", "forced", "none", ("commit",), "abort", False)
MIDDLE = (0, "forced", "forced", "forced", "none", ("commit",), "abort", True)
BEGUN = ("forced", "forced", "none")
HOUSE = (BEGUN, (MIDDLE, LEAF, LEAF))
NO_INTEGERS = [value for value in any_values() if isinstance(value, bool) or not isinstance(value, int)]


def exchanged(items, place, item):
    return items[:place] + (item,) + items[place + 1:]


def is_kind(value, many):
    return isinstance(value, tuple) and len(value) == many


def head_by_hand(value):
    if not is_kind(value, 3):
        return "form"
    for i, item in enumerate(value):
        if not isinstance(item, str) or item not in STRENGTHS:
            return ("strength", i)
    return None


def entry_by_hand(entry, node):
    if not is_kind(entry, 8):
        return "form"
    checks = (
        ("above", type(entry[0]) is int and 0 <= entry[0] < node),
        ("strength", all(isinstance(item, str) and item in STRENGTHS for item in entry[1:5])),
        ("thanks", isinstance(entry[5], tuple) and entry[5] in THANKS),
        ("presumed", isinstance(entry[6], str) and entry[6] in ENDS),
        ("late", type(entry[7]) is bool))
    return next((word for word, right in checks if not right), None)


def by_hand(value):
    """[J2] once more."""
    if not is_kind(value, 2) or not isinstance(value[1], tuple) or not 1 <= len(value[1]) <= 7:
        return "form"
    if head_by_hand(value[0]) is not None:
        return ("head", head_by_hand(value[0]))
    for node, entry in enumerate(value[1], 1):
        word = entry_by_hand(entry, node)
        if word is not None:
            return ("node", node, word)
    uppers = [entry[0] for entry in value[1]]
    for node, entry in enumerate(value[1], 1):
        if node not in uppers and (entry[1] != "none" or entry[7] is True):
            return ("leaf", node)
    return None


class TreeErrorTest(unittest.TestCase):

    def check(self, value, wanted):
        self.assertTrue(same(tree_error(value), wanted), (value, tree_error(value), wanted))
        self.assertTrue(same(by_hand(value), wanted), (value, by_hand(value), wanted))

    def test_trees(self):
        for tree in some_trees(400, 300) + [HOUSE]:
            self.check(tree, None)
        for many in (1, 2, 3, 4):
            for uppers in shapes(many):
                self.check((THIN, tuple(exchanged(LEAF, 0, upper) for upper in uppers)), None)

    def test_parts_of_a_leaf_and_of_a_middle_one(self):
        for head in HEADS:
            self.check((head, (MIDDLE, LEAF)), None)
        for place in (1, 2, 3, 4):
            for strength in STRENGTHS:
                self.check((THIN, (exchanged(MIDDLE, place, strength), LEAF)), None)
                leaf = exchanged(LEAF, place, strength)
                self.check((THIN, (MIDDLE, leaf)), ("leaf", 2) if place == 1 and strength != "none" else None)
        for thanks in THANKS:
            self.check((THIN, (exchanged(MIDDLE, 5, thanks), exchanged(LEAF, 5, thanks))), None)
        for presumed in ENDS:
            self.check((THIN, (exchanged(MIDDLE, 6, presumed), exchanged(LEAF, 6, presumed))), None)
        for late in (False, True):
            self.check((THIN, (exchanged(MIDDLE, 7, late), LEAF)), None)
            self.check((THIN, (MIDDLE, exchanged(LEAF, 7, late))), ("leaf", 2) if late else None)

    def test_how_many(self):
        root_leaf = exchanged(LEAF, 0, 0)
        for many in range(1, 8):
            self.check((THIN, (root_leaf,) * many), None)
        self.check((THIN, ()), "form")
        self.check((THIN, (root_leaf,) * 8), "form")
        self.check((THIN, (root_leaf,) * 4000), "form")
        self.check((THIN, [root_leaf]), "form")

    def test_form(self):
        for value in any_values():
            with Unchanged(self, value):
                if not is_kind(value, 2):
                    self.check(value, "form")
                self.check((THIN, value) if not isinstance(value, tuple) or not value else (value,), "form")
        for value in (HOUSE + (None,), HOUSE[:1], list(HOUSE), (HOUSE,), HOUSE[1], HOUSE[0]):
            self.check(value, "form")
        # Wrong in its form, whatever is wrong with the head.
        self.check((None, ()), "form")
        self.check((None, [LEAF]), "form")

    def test_what_the_package_returned(self):
        self.check(USUAL, ("node", 1, "form"))
        self.check((UNDONE, (UNDONE,)), ("head", "form"))

    def test_head(self):
        for value in any_values():
            wanted = head_by_hand(value)
            self.check((value, HOUSE[1]), None if wanted is None else ("head", wanted))
            for i in range(3):
                if not isinstance(value, str) or value not in STRENGTHS:
                    self.check((exchanged(BEGUN, i, value), HOUSE[1]), ("head", ("strength", i)))
        # The head ahead of the nodes.
        self.check((("none", None, None), (None,)), ("head", ("strength", 1)))
        self.check((list(BEGUN), (None,)), ("head", "form"))

    def test_form_of_an_entry(self):
        for value in any_values():
            if not is_kind(value, 8):
                for k in range(3):
                    self.check((BEGUN, exchanged(HOUSE[1], k, value)), ("node", k + 1, "form"))
        for value in (LEAF[:7], LEAF + (False,), list(LEAF), (LEAF,), UNDONE):
            self.check((BEGUN, (MIDDLE, value, LEAF)), ("node", 2, "form"))

    def test_above(self):
        for node in (1, 2, 3):
            for value in NO_INTEGERS + [-1, node, node + 1, 7, 10 ** 400 - 1]:
                entries = exchanged(HOUSE[1], node - 1, exchanged(HOUSE[1][node - 1], 0, value))
                self.check((BEGUN, entries), ("node", node, "above"))
        for upper in range(3):
            self.check((BEGUN, (MIDDLE, LEAF, exchanged(LEAF, 0, upper))), None)

    def test_each_other_part(self):
        words = {1: "strength", 2: "strength", 3: "strength", 4: "strength", 5: "thanks", 6: "presumed", 7: "late"}
        more = [("commit", "abort"), ("commit", "commit"), ["commit"], "commit", "both", "none", "Forced", 0, 1, None]
        for value in any_values() + more:
            for place, word in words.items():
                entry = exchanged(MIDDLE, place, value)
                wanted = None if entry_by_hand(entry, 1) is None else ("node", 1, word)
                self.check((BEGUN, (entry, LEAF, LEAF)), wanted)

    def test_the_first_that_is_wrong(self):
        wrong = (7, None, None, None, None, None, None, None)
        for place, word in enumerate(("above",) + ("strength",) * 4 + ("thanks", "presumed", "late")):
            entry = MIDDLE[:place] + wrong[place:]
            self.check((BEGUN, (entry, LEAF)), ("node", 1, word))
            self.check((BEGUN, (MIDDLE, (1,) + entry[1:], wrong)), ("node", 2, word if place else "strength"))
        self.check((BEGUN, (MIDDLE, wrong, None)), ("node", 2, "above"))
        self.check((BEGUN, (MIDDLE, None, wrong)), ("node", 2, "form"))

    def test_leaf(self):
        lone = exchanged(LEAF, 0, 0)
        for begun, late in (("lazy", False), ("forced", False), ("none", True), ("forced", True)):
            entry = exchanged(exchanged(lone, 1, begun), 7, late)
            self.check((BEGUN, (entry,)), ("leaf", 1))
            self.check((BEGUN, (lone, entry)), ("leaf", 2))
            self.check((BEGUN, (entry, entry)), ("leaf", 1))
            self.check((BEGUN, (lone, entry, exchanged(lone, 0, 2))), None)
        # Behind all that is wrong with entries.
        self.check((BEGUN, (exchanged(MIDDLE, 0, 0), exchanged(LEAF, 0, 0), None)), ("node", 3, "form"))
        self.check((BEGUN, (MIDDLE, exchanged(LEAF, 0, 0), exchanged(LEAF, 6, "none"))), ("node", 3, "presumed"))

    def test_changed_parts(self):
        for value in changed_parts(HOUSE, (None, True, False, 0, 1, 2, "none", "lazy", "commit", (), [], LEAF)):
            self.assertTrue(same(tree_error(value), by_hand(value)), value)

    def test_drawn_wrong_ones(self):
        choice = random.Random(301)
        values = any_values() + [0, 1, 2, "lazy", "forced", "commit", ("commit",), True, False]
        for tree in some_trees(400, 302):
            entries = list(tree[1])
            for _ in range(choice.randint(1, 3)):
                k = choice.randrange(len(entries))
                if isinstance(entries[k], tuple) and entries[k]:
                    entries[k] = exchanged(entries[k], choice.randrange(len(entries[k])), choice.choice(values))
            value = (tree[0], tuple(entries))
            self.assertTrue(same(tree_error(value), by_hand(value)), value)

    def test_calls(self):
        for value in any_values() + some_trees(30, 303) + [(THIN, (MIDDLE,)), (None, (LEAF,))]:
            called(self, tree_error, lambda: tree_error(HOUSE), value=value)


class BelowTest(unittest.TestCase):

    def test_drawn_ones(self):
        for tree in some_trees(300, 304):
            for node in range(len(tree[1]) + 1):
                wanted = tuple(k for k, entry in enumerate(tree[1], 1) if entry[0] == node)
                self.assertTrue(same(below(tree, node), wanted))

    def test_each_node_is_below_just_one(self):
        for tree in some_trees(100, 305):
            found = [k for node in range(len(tree[1]) + 1) for k in below(tree, node)]
            self.assertEqual(sorted(found), list(range(1, len(tree[1]) + 1)))

    def test_calls(self):
        for tree in some_trees(40, 306):
            for node in range(len(tree[1]) + 1):
                called(self, below, lambda: below(HOUSE, 1), tree=tree, node=node)


if __name__ == "__main__":
    unittest.main()
