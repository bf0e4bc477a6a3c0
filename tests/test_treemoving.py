"""[J5], [J6], [J7], [J9]: standings of trees, their deeds, and what holds along their runs."""

import itertools
import random
import unittest

from doubtbooks.errors import Refused, Unfit
from doubtbooks.moving import led, open_deeds
from doubtbooks.standings import start
from doubtbooks.treemoving import after_tree, led_tree, open_tree, start_tree
from tests.helping import (
    ENDS, STRENGTHS, THIN, PlainTree, Unchanged, any_values, called, changed_parts, chosen, drawn_tree, outcome, raised,
    same, shapes, some_trees, tree_levels, tree_walk)

LINK = (0, "none", "forced", "forced", "none", ("commit",), "abort", False)
TIP = (1, "none", "forced", "forced", "none", ("commit",), "abort", False)
CHAIN = (THIN, (LINK, TIP))
UP = (("begin",), ("forward", 1), ("yes", 2), ("count", 2))
COMMIT = UP + (("count", 1),)
WORDS = {
    "begin": 0, "forward": 1, "yes": 1, "no": 1, "count": 1, "refused": 1, "quit": 1, "hear": 2, "thanked": 1, "ask": 1,
    "fall": 2}
BOTH = ("abort", "commit")


def entry(above=0, begun="none", prepared="forced", committed="forced", aborted="forced", thanks=BOTH, presumed="abort",
          late=False):
    return (above, begun, prepared, committed, aborted, thanks, presumed, late)


# A root with a middle node that has two leaves, and with a leaf.
FULL = (("forced",) * 3, (entry(0, "forced"), entry(1), entry(1), entry(0)))
LATE = (("forced",) * 3, (entry(0, "forced", late=True), entry(1), entry(1), entry(0)))
FULL_UP = (("begin",), ("forward", 1), ("yes", 2), ("yes", 3), ("yes", 4), ("count", 2), ("count", 3), ("count", 4))
FULL_COMMIT = FULL_UP + (("count", 1),)


class TreeCase(unittest.TestCase):

    def sites(self, tree, deeds, wanted):
        """What nodes are behind deeds: wanted are pairs of a node and its site."""
        standing = led_tree(tree, deeds)
        for node, site in wanted.items():
            self.assertTrue(same(standing[0][node], site), (deeds, node, standing[0][node], site))
        return standing

    def sent(self, tree, deeds, wanted):
        """The letters that the last deed sends."""
        before, behind = led_tree(tree, deeds[:-1])[1], led_tree(tree, deeds)[1]
        self.assertEqual(set(behind) - set(before), set(wanted), deeds)
        self.assertTrue(set(before) <= set(behind))

    def can(self, tree, deeds, deed):
        self.assertIn(deed, open_tree(tree, led_tree(tree, deeds)), deeds)
        self.assertEqual(led_tree(tree, deeds + (deed,)), after_tree(tree, led_tree(tree, deeds), deed))

    def cannot(self, tree, deeds, deed):
        standing = led_tree(tree, deeds)
        self.assertNotIn(deed, open_tree(tree, standing), deeds)
        self.assertEqual(raised(Refused, after_tree, tree, standing, deed), {"deed": deed})


class StartTest(TreeCase):

    def test_start(self):
        for tree in some_trees(60, 320):
            sites = (("idle", (), 0, ()),) + (("active", (), 0, ()),) * len(tree[1])
            self.assertTrue(same(start_tree(tree), (sites, (), ())))
            self.assertTrue(same(led_tree(tree, ()), start_tree(tree)))
            falls = tuple(("fall", node, 0) for node in range(1, len(tree[1]) + 1))
            self.assertEqual(open_tree(tree, start_tree(tree)), (("begin",),) + falls)


class VotesTest(TreeCase):

    def test_begin(self):
        for begun in STRENGTHS:
            tree = ((begun, "none", "none"), FULL[1])
            log = () if begun == "none" else ("begun",)
            self.sites(tree, (("begin",),), {0: ("voting", log, int(begun == "forced"), ()), 1: ("active", (), 0, ())})
            self.sent(tree, (("begin",),), {(1, "prepare"), (4, "prepare")})
        self.cannot(FULL, (("begin",),), ("begin",))
        self.cannot(FULL, (("begin",), ("fall", 0, 1)), ("begin",))
        self.can(FULL, (("fall", 1, 0),), ("begin",))

    def test_forward(self):
        for begun in STRENGTHS:
            tree = (THIN, (entry(0, begun),) + FULL[1][1:])
            log = () if begun == "none" else ("begun",)
            deeds = (("begin",), ("forward", 1))
            self.sites(tree, deeds, {1: ("voting", log, int(begun == "forced"), ()), 0: ("voting", (), 0, ())})
            self.sent(tree, deeds, {(2, "prepare"), (3, "prepare")})
        self.cannot(FULL, (), ("forward", 1))
        self.can(FULL, (("begin",),), ("forward", 1))
        self.cannot(FULL, (("begin",),), ("forward", 4))
        self.cannot(FULL, (("begin",), ("forward", 1)), ("forward", 1))
        self.cannot(FULL, (("begin",), ("forward", 1)), ("forward", 2))
        self.cannot(FULL, (("begin",), ("fall", 1, 0)), ("forward", 1))
        self.cannot(FULL, (("begin",), ("quit", 0), ("hear", 1, "abort")), ("forward", 1))

    def test_leaves(self):
        for prepared in STRENGTHS:
            tree = (THIN, (LINK, entry(1, prepared=prepared)))
            log = () if prepared == "none" else ("prepared",)
            self.sites(tree, UP[:3], {2: ("prepared", log, int(prepared == "forced"), ())})
            self.sent(tree, UP[:3], {(2, "yes")})
        no = UP[:2] + (("no", 2),)
        standing = self.sites(CHAIN, no, {2: ("aborted", (), 0, ()), 1: ("voting", (), 0, ())})
        self.assertEqual(standing[2], ("abort",))
        self.sent(CHAIN, no, {(2, "no")})
        for word in ("yes", "no"):
            self.cannot(CHAIN, UP[:1], (word, 2))
            self.can(CHAIN, UP[:2], (word, 2))
            self.cannot(CHAIN, UP[:1], (word, 1))
            self.cannot(CHAIN, UP[:2] + (("fall", 2, 0),), (word, 2))
            self.can(CHAIN, UP[:2] + (("fall", 1, 0),), (word, 2))
            for voted in ("yes", "no"):
                self.cannot(CHAIN, UP[:2] + ((voted, 2),), (word, 2))
            self.can(FULL, (("begin",),), (word, 4))

    def test_count(self):
        self.cannot(FULL, FULL_UP[:2], ("count", 2))
        self.can(FULL, FULL_UP[:3], ("count", 2))
        self.cannot(FULL, FULL_UP[:3], ("count", 1))
        self.cannot(FULL, FULL_UP[:3] + (("count", 2),), ("count", 2))
        self.sites(FULL, FULL_UP[:4] + (("count", 3),), {1: ("voting", ("begun",), 1, (3,))})
        self.sent(FULL, FULL_UP[:4] + (("count", 3),), ())
        self.can(FULL, FULL_UP[:3] + (("fall", 2, 1),), ("count", 2))
        self.cannot(FULL, FULL_UP[:3] + (("quit", 1),), ("count", 2))
        self.cannot(FULL, FULL_UP[:3] + (("fall", 1, 1),), ("count", 2))

    def test_a_middle_one_says_yes_with_the_last(self):
        for begun, prepared in itertools.product(STRENGTHS, repeat=2):
            tree = (FULL[0], (entry(0, begun, prepared),) + FULL[1][1:])
            log = tuple(row for row, each in (("begun", begun), ("prepared", prepared)) if each != "none")
            sure = len(log) if prepared == "forced" else int(begun == "forced")
            for last, other in ((2, 3), (3, 2)):
                deeds = FULL_UP[:4] + (("count", other), ("count", last))
                standing = self.sites(tree, deeds, {1: ("prepared", log, sure, ())})
                self.assertEqual(standing[2], ())
                self.sent(tree, deeds, {(1, "yes")})

    def test_the_root_commits_with_the_last(self):
        for committed in STRENGTHS:
            tree = (("lazy", committed, "none"), FULL[1])
            log = ("begun",) + (("committed",) if committed != "none" else ())
            standing = self.sites(tree, FULL_COMMIT, {
                0: ("committing", log, 2 if committed == "forced" else 0, ()), 1: ("prepared", ("begun", "prepared"), 2, ())})
            self.assertEqual(standing[2], ("commit",))
            self.sent(tree, FULL_COMMIT, {(1, "commit"), (4, "commit")})
        silent = (THIN, (entry(0, thanks=()), entry(1)))
        self.sites(silent, COMMIT, {0: ("unknown", ("committed", "ended"), 1, ())})
        bare = (("none",) * 3, silent[1])
        self.sites(bare, COMMIT, {0: ("unknown", (), 0, ())})


class GivingUpTest(TreeCase):

    def test_refused(self):
        no = FULL_UP[:2] + (("no", 2),)
        self.cannot(FULL, FULL_UP[:3], ("refused", 2))
        self.cannot(FULL, no, ("refused", 3))
        self.can(FULL, no, ("refused", 2))
        self.cannot(FULL, no + (("fall", 1, 1),), ("refused", 2))
        standing = self.sites(FULL, no + (("refused", 2),), {
            1: ("aborting", ("begun", "aborted"), 2, ()), 0: ("voting", ("begun",), 1, ())})
        self.assertEqual(standing[2], ("abort",))
        self.sent(FULL, no + (("refused", 2),), {(1, "no"), (1, "aborted"), (2, "abort"), (3, "abort")})
        self.can(FULL, no + (("refused", 2),), ("refused", 1))
        self.sites(FULL, no + (("refused", 2), ("refused", 1)), {0: ("aborting", ("begun", "aborted"), 2, ())})
        self.cannot(FULL, no, ("refused", 1))

    def test_quit(self):
        for deeds, node in (((("begin",),), 0), (FULL_UP[:2], 1), (FULL_UP[:7], 0)):
            self.can(FULL, deeds, ("quit", node))
            self.cannot(FULL, deeds + (("quit", node),), ("quit", node))
        for deeds, node in (((), 0), ((), 1), (FULL_UP[:1], 1), (FULL_UP[:2], 2), (FULL_UP[:7], 1), (FULL_COMMIT, 0)):
            self.cannot(FULL, deeds, ("quit", node))
        self.sent(FULL, (("begin",), ("quit", 0)), {(1, "abort"), (4, "abort")})
        self.sent(FULL, FULL_UP[:2] + (("quit", 1),), {(1, "no"), (1, "aborted"), (2, "abort"), (3, "abort")})
        # Whom it has heard is left.
        self.sites(FULL, FULL_UP[:6] + (("quit", 1),), {1: ("aborting", ("begun", "aborted"), 2, ())})

    def test_late_ones_wait(self):
        deeds = FULL_UP[:2] + (("quit", 1),)
        self.sent(LATE, deeds, {(1, "no"), (2, "abort"), (3, "abort")})
        deeds += (("hear", 2, "abort"), ("hear", 3, "abort"), ("thanked", 3))
        self.sites(LATE, deeds, {1: ("aborting", ("begun", "aborted"), 2, (3,))})
        self.sent(LATE, deeds, ())
        self.sites(LATE, deeds + (("thanked", 2),), {1: ("unknown", ("begun", "aborted", "ended"), 2, ())})
        self.sent(LATE, deeds + (("thanked", 2),), {(1, "aborted")})

    def test_nobody_below_thanks(self):
        for late in (False, True):
            tree = (FULL[0], (entry(0, "lazy", aborted="none", late=late), entry(1, thanks=("commit",))))
            deeds = (("begin",), ("forward", 1), ("quit", 1))
            self.sites(tree, deeds, {1: ("unknown", ("begun", "ended"), 0, ())})
            self.sent(tree, deeds, {(1, "no"), (1, "aborted"), (2, "abort")})
            bare = (FULL[0], (entry(0, aborted="none", thanks=("commit",), late=late), entry(1, thanks=())))
            self.sites(bare, deeds, {1: ("unknown", (), 0, ())})
            self.sent(bare, deeds, {(1, "no"), (2, "abort")})


class HearTest(TreeCase):

    def test_a_leaf_ends(self):
        for row, strength in itertools.product(("committed", "aborted"), STRENGTHS):
            leaf = entry(0, **{row: strength})
            tree = (FULL[0], (leaf, entry(0)))
            log = ("prepared",) + ((row,) if strength != "none" else ())
            end = {"committed": "commit", "aborted": "abort"}[row]
            deeds = (("begin",), ("yes", 1), ("yes", 2), ("count", 1))
            deeds += (("count", 2) if end == "commit" else ("quit", 0), ("hear", 1, end))
            standing = self.sites(tree, deeds, {1: (row, log, 2 if strength == "forced" else 1, ())})
            self.assertEqual(standing[2], (end,))
            self.sent(tree, deeds, {(1, row)})

    def test_who_is_active_aborts_without_a_row(self):
        deeds = (("begin",), ("quit", 0), ("hear", 4, "abort"))
        self.sites(FULL, deeds, {4: ("aborted", (), 0, ())})
        self.sent(FULL, deeds, {(4, "aborted")})
        # A middle one writes it all the same, and tells those below.
        deeds = (("begin",), ("quit", 0), ("hear", 1, "abort"))
        self.sites(FULL, deeds, {1: ("aborting", ("aborted",), 1, ())})
        self.sent(FULL, deeds, {(1, "aborted"), (2, "abort"), (3, "abort")})
        self.can(FULL, deeds, ("hear", 2, "abort"))

    def test_who_is_voting_aborts(self):
        deeds = FULL_UP[:6] + (("quit", 0), ("hear", 1, "abort"))
        self.sites(FULL, deeds, {1: ("aborting", ("begun", "aborted"), 2, ())})
        self.sent(FULL, deeds, {(1, "aborted"), (2, "abort"), (3, "abort")})

    def test_a_middle_one_hands_on(self):
        deeds = FULL_COMMIT + (("hear", 1, "commit"),)
        self.sites(FULL, deeds, {1: ("committing", ("begun", "prepared", "committed"), 3, ())})
        self.sent(FULL, deeds, {(1, "committed"), (2, "commit"), (3, "commit")})
        self.sent(LATE, deeds, {(2, "commit"), (3, "commit")})
        self.cannot(FULL, FULL_COMMIT, ("hear", 2, "commit"))
        self.cannot(FULL, FULL_UP, ("hear", 1, "commit"))

    def test_thanks_alone(self):
        # One that said no, or is blank, or has ended by its log, thanks for what it hears.
        for deeds in ((("begin",), ("no", 4), ("quit", 0)), (("begin",), ("fall", 4, 0), ("quit", 0))):
            before = led_tree(FULL, deeds)[0][4]
            self.can(FULL, deeds, ("hear", 4, "abort"))
            self.sites(FULL, deeds + (("hear", 4, "abort"),), {4: before})
            self.sent(FULL, deeds + (("hear", 4, "abort"),), {(4, "aborted")})
            self.cannot(FULL, deeds + (("hear", 4, "abort"),), ("hear", 4, "abort"))
        blank = (("fall", 1, 0), ("begin",), ("quit", 0))
        for tree in (FULL, LATE):
            self.sent(tree, blank + (("hear", 1, "abort"),), {(1, "aborted")})
            self.sites(tree, blank + (("hear", 1, "abort"),), {1: ("blank", (), 0, ())})
        silent = (FULL[0], FULL[1][:3] + (entry(0, thanks=("commit",)),))
        self.cannot(silent, (("begin",), ("no", 4), ("quit", 0)), ("hear", 4, "abort"))

    def test_who_has_thanked_hears_no_more(self):
        deeds = FULL_COMMIT + (("hear", 4, "commit"),)
        self.cannot(FULL, deeds, ("hear", 4, "commit"))
        self.cannot(FULL, deeds + (("fall", 4, 2),), ("hear", 4, "commit"))
        # Prepared again it takes it, though its thanks are there.
        loose = (FULL[0], FULL[1][:3] + (entry(0, committed="lazy"),))
        self.can(loose, deeds + (("fall", 4, 1),), ("hear", 4, "commit"))
        self.sites(loose, deeds + (("fall", 4, 1), ("hear", 4, "commit")), {4: ("committed", ("prepared", "committed"), 1, ())})

    def test_late_ones_do_not_thank_by_hearing(self):
        deeds = FULL_COMMIT + (("hear", 1, "commit"),)
        self.cannot(LATE, deeds, ("hear", 1, "commit"))
        self.cannot(FULL, deeds, ("hear", 1, "commit"))
        quits = FULL_UP[:2] + (("quit", 1), ("refused", 1))
        self.cannot(LATE, quits, ("hear", 1, "abort"))
        # One that is aborting hears a commit, for which it thanks at once, late or not.
        asks = (("none", "none", "none"), (entry(0, "lazy", "lazy", presumed="commit", late=True), entry(1), entry(0)))
        split = (("begin",), ("forward", 1), ("yes", 2), ("count", 2), ("fall", 0, 0), ("ask", 1), ("fall", 1, 1))
        self.sites(asks, split, {1: ("aborting", ("begun", "aborted"), 2, ())})
        self.can(asks, split, ("hear", 1, "commit"))
        self.sites(asks, split + (("hear", 1, "commit"),), {1: ("aborting", ("begun", "aborted"), 2, ())})
        self.sent(asks, split + (("hear", 1, "commit"),), {(1, "committed")})

    def test_active_and_voting_ones_do_not_hear_commit(self):
        asks = (("none", "none", "none"), (entry(0, presumed="commit"), entry(0)))
        deeds = (("begin",), ("yes", 1), ("fall", 0, 0), ("ask", 1))
        self.can(asks, deeds, ("hear", 1, "commit"))
        for node in (1, 4):
            self.cannot(FULL, (("begin",), ("quit", 0)), ("hear", node, "commit"))


class ThankedTest(TreeCase):

    def test_forgets_with_the_last(self):
        deeds = FULL_COMMIT + (("hear", 1, "commit"), ("hear", 4, "commit"))
        for first, last in ((1, 4), (4, 1)):
            self.can(FULL, deeds, ("thanked", first))
            self.sites(FULL, deeds + (("thanked", first),), {0: ("committing", ("begun", "committed"), 2, (first,))})
            self.cannot(FULL, deeds + (("thanked", first),), ("thanked", first))
            behind = deeds + (("thanked", first), ("thanked", last))
            self.sites(FULL, behind, {0: ("unknown", ("begun", "committed", "ended"), 2, ())})
            self.cannot(FULL, behind, ("thanked", last))
        self.cannot(FULL, FULL_COMMIT, ("thanked", 1))
        self.cannot(LATE, deeds, ("thanked", 1))
        self.can(LATE, deeds, ("thanked", 4))

    def test_a_middle_one(self):
        deeds = FULL_COMMIT + (("hear", 1, "commit"), ("hear", 2, "commit"), ("hear", 3, "commit"), ("thanked", 2))
        self.sites(FULL, deeds, {1: ("committing", ("begun", "prepared", "committed"), 3, (2,))})
        for tree, letters in ((FULL, ()), (LATE, {(1, "committed")})):
            behind = deeds + (("thanked", 3),)
            self.sites(tree, behind, {1: ("unknown", ("begun", "prepared", "committed", "ended"), 3, ())})
            self.sent(tree, behind, letters)

    def test_those_who_do_not_thank_are_not_awaited(self):
        tree = (FULL[0], FULL[1][:2] + (entry(1, thanks=("abort",)), entry(0, thanks=())))
        deeds = FULL_COMMIT + (("hear", 1, "commit"), ("hear", 2, "commit"), ("hear", 3, "commit"), ("hear", 4, "commit"))
        self.cannot(tree, deeds, ("thanked", 3))
        self.cannot(tree, deeds, ("thanked", 4))
        self.sites(tree, deeds + (("thanked", 2), ("thanked", 1)), {
            0: ("unknown", ("begun", "committed", "ended"), 2, ()),
            1: ("unknown", ("begun", "prepared", "committed", "ended"), 3, ())})

    def test_thanks_of_one_that_said_no(self):
        deeds = FULL_COMMIT + (("hear", 4, "commit"),)
        aborting = (("begin",), ("no", 4), ("quit", 0))
        self.cannot(FULL, aborting, ("thanked", 4))
        self.can(FULL, aborting + (("hear", 4, "abort"),), ("thanked", 4))
        self.can(FULL, deeds, ("thanked", 4))


class AskTest(TreeCase):

    def test_of_an_unknown_one(self):
        for presumed in ENDS:
            tree = (THIN, (entry(0, presumed=presumed), entry(0)))
            deeds = (("begin",), ("yes", 1), ("fall", 0, 0))
            self.cannot(tree, deeds[:2], ("ask", 1))
            self.can(tree, deeds, ("ask", 1))
            self.cannot(tree, deeds, ("ask", 2))
            self.sent(tree, deeds + (("ask", 1),), {(1, presumed)})
            self.cannot(tree, deeds + (("ask", 1),), ("ask", 1))

    def test_of_a_blank_one(self):
        tree = (THIN, (entry(0), entry(1, presumed="commit"), entry(1)))
        deeds = (("begin",), ("forward", 1), ("yes", 2), ("fall", 1, 0))
        self.sites(tree, deeds, {1: ("blank", (), 0, ())})
        self.can(tree, deeds, ("ask", 2))
        self.cannot(tree, deeds, ("ask", 3))
        self.sent(tree, deeds + (("ask", 2),), {(2, "commit")})

    def test_of_one_that_knows(self):
        self.cannot(FULL, FULL_COMMIT, ("ask", 1))
        self.cannot(FULL, FULL_UP[:6], ("ask", 2))
        # In doubt itself it says nothing to those below.
        self.cannot(FULL, FULL_COMMIT + (("fall", 1, 2),), ("ask", 2))
        self.cannot(FULL, FULL_UP[:3] + (("quit", 1),), ("ask", 2))


class FallTest(TreeCase):

    def test_who_falls(self):
        self.cannot(FULL, (), ("fall", 0, 0))
        for node in (1, 2, 4):
            self.can(FULL, (), ("fall", node, 0))
            self.cannot(FULL, (("fall", node, 0),), ("fall", node, 0))
        self.can(FULL, (("begin",),), ("fall", 0, 1))
        ended = FULL_COMMIT + (("hear", 1, "commit"), ("hear", 4, "commit"), ("thanked", 1), ("thanked", 4))
        self.can(FULL, ended, ("fall", 0, 3))
        self.can(FULL, ended, ("fall", 0, 2))

    def test_how_many_rows(self):
        self.cannot(FULL, FULL_COMMIT, ("fall", 0, 1))
        self.cannot(FULL, FULL_COMMIT, ("fall", 0, 3))
        lazy = (("lazy", "lazy", "lazy"), FULL[1])
        for kept in range(3):
            self.can(lazy, FULL_COMMIT, ("fall", 0, kept))

    def test_the_root_by_its_log(self):
        lazy = (("lazy", "lazy", "lazy"), FULL[1])
        self.sites(lazy, FULL_COMMIT + (("fall", 0, 2),), {0: ("committing", ("begun", "committed"), 2, ())})
        aborting = FULL_COMMIT + (("fall", 0, 1),)
        self.assertEqual(self.sites(lazy, aborting, {0: ("aborting", ("begun", "aborted"), 1, ())})[2], BOTH)
        self.sent(lazy, aborting, {(1, "abort"), (4, "abort")})
        self.sites(lazy, FULL_COMMIT + (("fall", 0, 0),), {0: ("unknown", (), 0, ())})
        self.sites(lazy, aborting + (("fall", 0, 2),), {0: ("aborting", ("begun", "aborted"), 2, ())})
        ended = FULL_COMMIT + (("hear", 1, "commit"), ("hear", 4, "commit"), ("thanked", 1), ("thanked", 4))
        self.sites(lazy, ended + (("fall", 0, 3),), {0: ("unknown", ("begun", "committed", "ended"), 3, ())})
        self.sites(lazy, ended + (("fall", 0, 2),), {0: ("committing", ("begun", "committed"), 2, ())})
        self.sites(FULL, FULL_UP[:1] + (("fall", 0, 1),), {0: ("aborting", ("begun", "aborted"), 2, ())})

    def test_a_middle_one_by_its_log(self):
        lazy = (FULL[0], (entry(0, "lazy", "lazy", "lazy", "lazy"),) + FULL[1][1:])
        heard = FULL_COMMIT + (("hear", 1, "commit"),)
        self.sites(lazy, heard + (("fall", 1, 3),), {1: ("committing", ("begun", "prepared", "committed"), 3, ())})
        self.sites(lazy, heard + (("fall", 1, 2),), {1: ("prepared", ("begun", "prepared"), 2, ())})
        gives_up = heard + (("fall", 1, 1),)
        self.sites(lazy, gives_up, {1: ("aborting", ("begun", "aborted"), 1, ())})
        self.sent(lazy, gives_up, {(1, "no"), (1, "aborted"), (2, "abort"), (3, "abort")})
        blank = heard + (("fall", 1, 0),)
        self.assertEqual(self.sites(lazy, blank, {1: ("blank", (), 0, ())})[2], BOTH)
        self.sent(lazy, blank, ())
        self.sites(lazy, gives_up + (("fall", 1, 2),), {1: ("aborting", ("begun", "aborted"), 2, ())})
        thanked = heard + (("hear", 2, "commit"), ("hear", 3, "commit"), ("thanked", 2), ("thanked", 3))
        self.sites(lazy, thanked + (("fall", 1, 4),), {1: ("unknown", ("begun", "prepared", "committed", "ended"), 4, ())})
        self.sites(lazy, thanked[:-1] + (("fall", 1, 3),), {1: ("committing", ("begun", "prepared", "committed"), 3, ())})

    def test_a_leaf_by_its_log(self):
        lazy = (FULL[0], (entry(0, "none", "lazy", "lazy", "lazy"), entry(0)))
        votes = (("begin",), ("yes", 1), ("yes", 2), ("count", 1))
        for deed, end, row in ((("count", 2), "commit", "committed"), (("quit", 0), "abort", "aborted")):
            heard = votes + (deed, ("hear", 1, end))
            self.sites(lazy, heard + (("fall", 1, 2),), {1: (row, ("prepared", row), 2, ())})
            self.sites(lazy, heard + (("fall", 1, 1),), {1: ("prepared", ("prepared",), 1, ())})
            standing = self.sites(lazy, heard + (("fall", 1, 0),), {1: ("blank", (), 0, ())})
            self.assertIn("abort", standing[2])
            self.sent(lazy, heard + (("fall", 1, 1),), ())
        self.assertEqual(self.sites(lazy, votes + (("fall", 1, 1),), {1: ("prepared", ("prepared",), 1, ())})[2], ())

    def test_a_row_that_stands_is_not_written_again(self):
        lazy = (("none", "lazy", "lazy"), FULL[1])
        self.sites(lazy, FULL_COMMIT + (("fall", 0, 1),) * 3, {0: ("committing", ("committed",), 1, ())})
        silent = (THIN, (entry(0, thanks=()), entry(0, thanks=())))
        deeds = (("begin",), ("yes", 1), ("yes", 2), ("count", 1), ("count", 2))
        self.sites(silent, deeds + (("fall", 0, 1),), {0: ("unknown", ("committed", "ended"), 1, ())})
        self.sites(silent, deeds + (("fall", 0, 2),), {0: ("unknown", ("committed", "ended"), 2, ())})

    def test_blank_ones_do_nothing_else(self):
        deeds = (("fall", 1, 0), ("fall", 2, 0), ("fall", 3, 0), ("fall", 4, 0), ("begin",), ("quit", 0))
        self.assertEqual(open_tree(FULL, led_tree(FULL, deeds)), (
            ("fall", 0, 2), ("hear", 1, "abort"), ("hear", 4, "abort")))


class RefusedTest(TreeCase):

    def refused(self, tree, standing, deed):
        with Unchanged(self, tree, standing, deed):
            self.assertTrue(same(raised(Refused, after_tree, tree, standing, deed), {"deed": deed}), deed)

    def test_any_value(self):
        for standing in (start_tree(CHAIN), led_tree(CHAIN, UP), led_tree(CHAIN, COMMIT)):
            for value in any_values():
                self.refused(CHAIN, standing, value)

    def test_form(self):
        standing = led_tree(FULL, FULL_COMMIT)
        for word, many in WORDS.items():
            for items in range(4):
                for rest in itertools.product((0, 1, 4, 5, "abort", "commit", None, True), repeat=items):
                    deed = (word, *rest)
                    plain = PlainTree(FULL)
                    plain.load(standing)
                    right = items == many and [type(each) for each in rest[:1]] in ([], [int]) and 5 not in rest[:1]
                    if word == "hear":
                        right = right and rest[1] in ENDS
                    if word == "fall":
                        right = right and type(rest[1]) is int and plain.sure[rest[0]] <= rest[1] <= len(plain.log[rest[0]])
                    if right and plain.can(deed):
                        self.can(FULL, FULL_COMMIT, deed)
                    else:
                        self.refused(FULL, standing, deed)
                    self.refused(FULL, standing, list(deed))

    def test_no_integers(self):
        for value in [value for value in any_values() if type(value) is not int] + [-1, 5, 6, 10 ** 400]:
            for word in WORDS:
                if word != "begin":
                    deed = (word, value) + {"hear": ("commit",), "fall": (0,)}.get(word, ())
                    self.refused(FULL, led_tree(FULL, FULL_COMMIT), deed)
            self.refused(FULL, led_tree(FULL, FULL_COMMIT), ("fall", 0, value))
            self.refused(FULL, led_tree(FULL, FULL_COMMIT), ("hear", 1, value))
            self.refused(FULL, led_tree(FULL, FULL_COMMIT), (value, 1))

    def test_the_root_has_none_above(self):
        for deeds in ((), UP[:1], UP, COMMIT, COMMIT + (("fall", 0, 1),), (("begin",), ("fall", 0, 0))):
            for word in ("forward", "yes", "no", "count", "refused", "thanked", "ask"):
                self.cannot(CHAIN, deeds, (word, 0))
            for end in ENDS:
                self.cannot(CHAIN, deeds, ("hear", 0, end))

    def test_words_of_letters_are_no_ends(self):
        for deeds in (FULL_UP[:1], FULL_UP[:5], FULL_UP, FULL_COMMIT, FULL_COMMIT + (("hear", 1, "commit"), ("hear", 4, "commit"))):
            for node, word in led_tree(FULL, deeds)[1]:
                if word not in ENDS:
                    self.refused(FULL, led_tree(FULL, deeds), ("hear", node, word))

    def test_deeds_of_protocols(self):
        for deed in (("quit",), ("stop", 0), ("read", 2), ("restore", 2), ("fall", 0), ("forward",)):
            self.refused(FULL, led_tree(FULL, FULL_UP[:2]), deed)


class LedTreeTest(TreeCase):

    def test_unfit(self):
        for value in any_values() + [list(UP), [("begin",)], {}, "begin"]:
            if not isinstance(value, tuple):
                told = called(self, led_tree, lambda: led_tree(FULL, FULL_UP), tree=CHAIN, deeds=value)
                self.assertEqual(told, ("raised", "Unfit", {}))

    def test_too_many(self):
        long = (("begin",),) + (("fall", 0, 0),) * 399
        self.assertEqual(led_tree(CHAIN, long)[0][0], ("unknown", (), 0, ()))
        for deeds in (long + (("fall", 0, 0),), (None,) * 401, (None,) * 4000, long + (None,)):
            told = called(self, led_tree, lambda: led_tree(FULL, FULL_UP), tree=CHAIN, deeds=deeds)
            self.assertEqual(told, ("raised", "TooMany", {"limit": 400}))
        self.assertEqual(raised(Unfit, led_tree, CHAIN, [None] * 401), {})
        self.assertEqual(raised(Refused, led_tree, CHAIN, (None,) * 400), {"deed": None})

    def test_the_first_that_cannot_be_done(self):
        for k in range(len(COMMIT)):
            for value in (None, ("begin",) if k else ("quit", 0), ["begin"], ("yes", True), ("fall", 2, 9)):
                deeds = COMMIT[:k] + (value, None) + COMMIT[k:]
                self.assertTrue(same(raised(Refused, led_tree, CHAIN, deeds), {"deed": value}), deeds)

    def test_changed_parts(self):
        for value in changed_parts(COMMIT, (None, True, 0, 1, 2, "commit", ("quit", 0), [])):
            plain, wanted = PlainTree(CHAIN), None
            if not isinstance(value, tuple):
                wanted = ("raised", "Unfit", {})
            else:
                for deed in value:
                    if wanted is None and [each for each in plain.all_deeds() if same(each, deed)] and plain.can(deed):
                        plain.do(deed)
                    elif wanted is None:
                        wanted = ("raised", "Refused", {"deed": deed})
            self.assertTrue(same(outcome(led_tree, CHAIN, value), wanted or ("returned", plain.standing())), value)


class SecondReckoningTest(unittest.TestCase):

    def deeds_by_hand(self, plain):
        return tuple(sorted(deed for deed in plain.all_deeds() if plain.can(deed)))

    def test_along_runs(self):
        choice = random.Random(321)
        met, heard = set(), set()
        for tree in some_trees(500, 322) + some_trees(150, 323, 2, 4, (0.97,)):
            plain, run = PlainTree(tree), ()
            for standing, deed, behind in tree_walk(tree, choice, 45):
                self.assertTrue(same(open_tree(tree, standing), self.deeds_by_hand(plain)), (tree, run))
                met.add(deed[0])
                if deed[0] == "hear":
                    entry_there = tree[1][deed[1] - 1]
                    heard.add((standing[0][deed[1]][0], deed[2], entry_there[7]))
                plain.do(deed)
                run += (deed,)
                self.assertTrue(same(behind, plain.standing()), (tree, run))
            self.assertTrue(same(led_tree(tree, run), plain.standing()))
        self.assertEqual(met, set(WORDS))
        for end, late in itertools.product(ENDS, (False, True)):
            self.assertIn(("prepared", end, late), heard)
        for end, phase in itertools.product(ENDS, ("blank", "unknown")):
            self.assertTrue(heard & {(phase, end, False), (phase, end, True)})
        for late in (False, True):
            for phase in ("active", "voting"):
                self.assertIn((phase, "abort", late), heard)

    def test_through_all_standings(self):
        choice = random.Random(324)
        trees = [drawn_tree(choice, uppers, sound) for many in (1, 2) for uppers in shapes(many)
                 for sound in (0, 0.5, 0.8, 0.9, 1)]
        # All that can come of the greater ones is too much here; those of three nodes are few.
        trees += [drawn_tree(choice, choice.choice(shapes(3)), 1) for _ in range(3)]
        count = 0
        for tree in trees:
            plain = PlainTree(tree)
            for standing in [each for level in tree_levels(tree) for each in level]:
                plain.load(standing)
                can = self.deeds_by_hand(plain)
                self.assertEqual(open_tree(tree, standing), can)
                for deed in can:
                    plain.load(standing)
                    plain.do(deed)
                    self.assertEqual(after_tree(tree, standing, deed), plain.standing(), (tree, standing, deed))
                    count += 1
        self.assertGreater(count, 5000)

    def test_deeds_are_ascending(self):
        choice = random.Random(325)
        for tree in some_trees(60, 326):
            for standing, deed, behind in tree_walk(tree, choice, 30):
                can = open_tree(tree, standing)
                self.assertEqual(list(can), sorted(set(can)))
                self.assertIsInstance(can, tuple)

    def test_closed_ones_are_refused(self):
        choice = random.Random(327)
        for tree in some_trees(60, 328):
            plain = PlainTree(tree)
            for standing, deed, behind in tree_walk(tree, choice, 25):
                plain.load(standing)
                for other in plain.all_deeds():
                    if not plain.can(other):
                        self.assertEqual(raised(Refused, after_tree, tree, standing, other), {"deed": other})

    def test_calls(self):
        choice = random.Random(329)

        def between():
            led_tree(FULL, FULL_COMMIT)
            open_tree(CHAIN, led_tree(CHAIN, UP))

        for tree in some_trees(40, 330):
            called(self, start_tree, between, tree=tree)
            run = ()
            for standing, deed, behind in tree_walk(tree, choice, 12):
                run += (deed,)
                called(self, open_tree, between, tree=tree, standing=standing)
                for value in (deed, None, ("quit", 0)):
                    called(self, after_tree, between, tree=tree, standing=standing, deed=value)
                for deeds in (run, run + (None,), list(run)):
                    called(self, led_tree, between, tree=tree, deeds=deeds)


class HoldsTest(unittest.TestCase):
    """[J9]"""

    def test_what_grows(self):
        choice = random.Random(331)
        longest = 0
        for tree in some_trees(300, 332):
            for standing, deed, behind in tree_walk(tree, choice, 40):
                self.assertTrue(set(standing[1]) <= set(behind[1]))
                self.assertTrue(set(standing[2]) <= set(behind[2]))
                self.assertEqual(behind[1], tuple(sorted(set(behind[1]))))
                self.assertEqual(behind[2], tuple(sorted(set(behind[2]))))
                for before, (phase, log, sure, heard) in zip(standing[0], behind[0]):
                    self.assertLessEqual(len(log), 4)
                    self.assertEqual(len(set(log)), len(log))
                    self.assertTrue(0 <= sure <= len(log))
                    # What is sure stays.
                    self.assertEqual(log[:before[2]], before[1][:before[2]])
                    if phase not in ("voting", "committing", "aborting"):
                        self.assertEqual(heard, ())
                    longest = max(longest, len(log))
        self.assertEqual(longest, 4)

    def flat(self, tree):
        """The tree with all nodes below its root, and the protocol of the same manners."""
        entries = tuple((0, "none") + each[2:7] + (False,) for each in tree[1])
        return (tree[0], entries), (tree[0], tuple(each[2:7] + (False,) for each in entries))

    def as_tree(self, standing):
        """The standing of a protocol as one of a tree."""
        (phase, log, sure, heard), participants, letters, told = standing
        sites = ((phase, log, sure, tuple(i + 1 for i in heard)),) + tuple(each + ((),) for each in participants)
        return (sites, tuple((i + 1, word) for i, word in letters), told)

    def as_deed(self, deed):
        """The deed of a protocol as one of a tree; None if trees have none of the kind."""
        word = deed[0]
        if word in ("read", "restore"):
            return None
        if word in ("quit", "stop"):
            return {"quit": ("quit", 0), "stop": ("fall", 0)}[word] + deed[1:]
        return deed if word == "begin" else (word, deed[1] + 1) + deed[2:]

    def test_flat_ones_run_as_protocols(self):
        choice = random.Random(333)
        met = set()
        for drawn in some_trees(250, 334, 1, 6):
            tree, protocol = self.flat(drawn)
            run, standing = (), start(protocol)
            for _ in range(35):
                deeds = [deed for deed in open_deeds(protocol, standing) if self.as_deed(deed)]
                in_tree = led_tree(tree, tuple(self.as_deed(deed) for deed in run))
                self.assertEqual(in_tree, self.as_tree(standing))
                self.assertEqual(open_tree(tree, in_tree), tuple(sorted(self.as_deed(deed) for deed in deeds)))
                if not deeds:
                    break
                run += (chosen(choice, deeds),)
                met.add(run[-1][0])
                standing = led(protocol, run)
        self.assertEqual(len(met), 11)

    def test_flat_ones_of_seven(self):
        tree = (THIN, (entry(0),) * 7)
        standing = led_tree(tree, (("begin",),) + tuple((word, i) for word in ("yes", "count") for i in range(1, 8)))
        self.assertEqual(standing[0][0], ("committing", ("committed",), 1, ()))


if __name__ == "__main__":
    unittest.main()
