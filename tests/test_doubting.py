"""[H1] to [H4]: who may end while the coordinator is down, and who must wait."""

import itertools
import random
import unittest

from doubtbooks.doubting import knows_unsaid, may_end, twins
from doubtbooks.fitting import is_safe
from doubtbooks.knownways import abort_with_work, all_forced, commit_with_work, presumed_abort, presumed_commit
from doubtbooks.moving import after, led, open_deeds
from doubtbooks.protocols import alike_for
from doubtbooks.standings import start
from tests.helping import (
    DONE, FIT, MANNERS, STRENGTHS, THIN, UNDONE, USUAL, called, safe_protocols, same, some_protocols)

PHASES = ("active", "prepared", "committed", "aborted", "blank", "out")
WORK = ("none", "forced", "none", ("commit",), "abort", True)
MIXED = (("forced", "forced", "none"), (DONE, WORK))
ENDS = (("commit",), ("abort",))


def views_of(protocol):
    return itertools.product(PHASES + (None,), repeat=len(protocol[1]))


def has_view(standing, view):
    return all(want in (None, site[0]) for want, site in zip(view, standing[1]))


def never_said(manner, phase):
    """[H1] once more."""
    return phase == "active" or (phase == "blank" and (not manner[5] or manner[0] == "forced"))


def knowers(protocol, view):
    return [i for i, phase in enumerate(view) if phase is not None and never_said(protocol[1][i], phase)]


def ending_of(protocol, view):
    """[H2] once more."""
    if "committed" in view:
        return "commit"
    return "abort" if "aborted" in view or knowers(protocol, view) else "wait"


def graph_of(protocol):
    """Each standing that comes, with its deeds and the standings behind them."""
    graph, waiting = {}, [start(protocol)]
    while waiting:
        standing = waiting.pop()
        if standing not in graph:
            graph[standing] = [(deed, after(protocol, standing, deed)) for deed in open_deeds(protocol, standing)]
            waiting.extend(behind for deed, behind in graph[standing])
    return graph


def telling(graph, end, silent):
    """The standings from which some run tells this end, those that are silent saying no yes, nor reading."""
    ahead = {}
    for standing, steps in graph.items():
        for deed, behind in steps:
            if not (deed[0] in ("yes", "read") and deed[1] in silent):
                ahead.setdefault(behind, []).append(standing)
    waiting = [standing for standing in graph if end in standing[3]]
    found = set(waiting)
    while waiting:
        for standing in ahead.get(waiting.pop(), ()):
            if standing not in found:
                found.add(standing)
                waiting.append(standing)
    return found


class KnowsUnsaidTest(unittest.TestCase):

    def test_all(self):
        for manner in MANNERS:
            for phase in PHASES:
                told = knows_unsaid(manner, phase)
                self.assertIs(told, never_said(manner, phase), (manner, phase))
                self.assertIs(knows_unsaid(phase=phase, manner=manner), told)

    def test_blank(self):
        for prepared, presumed in itertools.product(STRENGTHS, ("abort", "commit")):
            for sent in (False, True):
                manner = (prepared, "forced", "forced", ("abort", "commit"), presumed, sent)
                self.assertIs(knows_unsaid(manner, "blank"), not sent or prepared == "forced")

    def test_nobody_blank_that_knows_has_said_yes(self):
        for protocol in ((THIN, (UNDONE,)), (THIN, (WORK,)), (THIN, (("forced",) + WORK[1:],)), (THIN, (DONE,))):
            said = set()
            for standing in graph_of(protocol):
                if standing[1][0][0] == "blank":
                    said.add((0, "yes") in standing[2])
            self.assertEqual(said, {False} if knows_unsaid(protocol[1][0], "blank") else {False, True})

    def test_calls(self):
        for manner in MANNERS[::17]:
            for phase in PHASES:
                called(self, knows_unsaid, lambda: knows_unsaid(WORK, "blank"), manner=manner, phase=phase)


class DoubtCase(unittest.TestCase):

    def check_twins(self, protocol, view):
        pair = twins(protocol, view)
        self.assertIsInstance(pair, tuple)
        self.assertEqual(len(pair), 2)
        for run, told in zip(pair, ENDS):
            self.assertIsInstance(run, tuple)
            standing = led(protocol, run)
            self.assertEqual(standing[3], told, (protocol, view, run))
            self.assertTrue(has_view(standing, view), (protocol, view, run))

    def check(self, protocol, view, wanted):
        self.assertEqual(may_end(protocol, view), wanted, (protocol, view))
        if wanted == "wait":
            self.check_twins(protocol, view)
        else:
            self.assertIsNone(twins(protocol, view))

    def unfit(self, protocol, view):
        for function in (may_end, twins):
            told = called(self, function, lambda: function(USUAL, (None, None)), protocol=protocol, view=view)
            self.assertEqual(told, ("raised", "Unfit", {}), (protocol, view))


class MayEndTest(DoubtCase):

    def test_committed_ahead_of_all(self):
        for phase in PHASES + (None,):
            self.check(USUAL, ("committed", phase), "commit")
            self.check(USUAL, (phase, "committed"), "commit")

    def test_aborted_and_unsaid(self):
        for phase in PHASES[:2] + PHASES[3:] + (None,):
            for other in ("aborted", "active"):
                self.check(USUAL, (other, phase), "abort")
                self.check(MIXED, (phase, other), "abort")
        for phase in ("prepared", "out", None):
            self.check(USUAL, ("blank", phase), "abort")
            self.check(MIXED, ("blank", phase), "abort")
            self.check(MIXED, (phase, "blank"), "wait")

    def test_nobody_up(self):
        for many in range(2, 7):
            for way in (presumed_abort(), abort_with_work(), presumed_commit(), commit_with_work(), all_forced("abort")):
                self.check(alike_for(*way, many), (None,) * many, "wait")

    def test_all_up(self):
        for many in range(2, 7):
            for phase in ("prepared", "out"):
                self.check(alike_for(*presumed_commit(), many), (phase,) * many, "wait")
            self.check(alike_for(*commit_with_work(), many), ("blank",) * many, "wait")
            self.check(alike_for(*presumed_commit(), many), ("blank",) * many, "abort")

    def test_work_sent_and_prepared_written(self):
        for prepared in STRENGTHS:
            for head, presumed in ((THIN, "abort"), (("forced", "forced", "none"), "commit")):
                manner = (prepared, "forced", "forced", ("abort", "commit"), presumed, True)
                wanted = "abort" if prepared == "forced" else "wait"
                self.check((head, (manner, manner)), ("blank", "blank"), wanted)
                self.check((head, (manner, manner, UNDONE)), (None, "blank", "out"), wanted)

    def test_what_no_standing_has(self):
        self.check(USUAL, ("committed", "active"), "commit")
        self.check(USUAL, ("active", "committed"), "commit")
        self.check(USUAL, ("committed", "aborted"), "commit")

    def test_all_views_of_two_and_three(self):
        for protocol in safe_protocols(60, 120, 2, 3) + [USUAL, MIXED]:
            for view in views_of(protocol):
                self.check(protocol, view, ending_of(protocol, view))

    def test_some_views_of_more(self):
        choice = random.Random(121)
        for protocol in safe_protocols(100, 122, 4):
            for _ in range(20):
                view = tuple(choice.choice(("prepared", "out", "blank", None)) for _ in protocol[1])
                self.check(protocol, view, ending_of(protocol, view))
                view = tuple(choice.choice(PHASES + (None,)) for _ in protocol[1])
                self.check(protocol, view, ending_of(protocol, view))

    def test_calls(self):
        choice = random.Random(123)
        for protocol in safe_protocols(20, 124):
            for view in choice.sample(list(views_of((protocol[0], protocol[1][:2]))), 10):
                view += (None,) * (len(protocol[1]) - 2)
                for function in (may_end, twins):
                    called(self, function, lambda: function(USUAL, ("prepared", None)), protocol=protocol, view=view)


class UnfitTest(DoubtCase):

    def test_one_alone(self):
        for way in (presumed_abort(), abort_with_work(), presumed_commit(), all_forced("commit")):
            for phase in PHASES + (None,):
                self.unfit(alike_for(*way, 1), (phase,))
        self.unfit((("none", "none", "forced"), (DONE,)), ("prepared",))
        self.unfit((("none", "none", "none"), (DONE,)), ("committed",))

    def test_what_is_not_safe(self):
        for view in views_of(USUAL):
            self.unfit((THIN, (UNDONE, DONE)), view)
        choice = random.Random(125)
        for protocol in some_protocols(60, 126):
            if not is_safe(protocol):
                self.unfit(protocol, tuple(choice.choice(PHASES + (None,)) for _ in protocol[1]))

    def test_one_that_lacks_something_at_each_place(self):
        bare = ("none", "none", "none", (), "abort", False)
        for many in range(2, 7):
            for i in range(many):
                manners = (UNDONE,) * i + (bare,) + (UNDONE,) * (many - i - 1)
                self.unfit((THIN, manners), (None,) * many)


class HoldsTest(DoubtCase):
    """[H4], through all standings."""

    def check_view(self, protocol, graph, view, tellers):
        having = [standing for standing in graph if has_view(standing, view)]
        end = may_end(protocol, view)
        if end == "commit":
            self.assertFalse([standing for standing in having if standing in tellers("abort", ())], (protocol, view))
        elif end == "abort":
            silent = tuple(knowers(protocol, view))
            self.assertFalse([standing for standing in having if standing in tellers("commit", silent)], (protocol, view))
        else:
            self.assertTrue({("commit",), ("abort",)} <= {standing[3] for standing in having}, (protocol, view))
            for phase, manner in zip(view, protocol[1]):
                left = phase == "blank" and manner[5] and manner[0] != "forced"
                self.assertTrue(phase in (None, "prepared", "out") or left, (protocol, view))
        return end

    def test_all_views(self):
        choice = random.Random(127)
        protocols = safe_protocols(14, 128, 2, 2) + [USUAL, MIXED]
        protocols += [(THIN, (UNDONE, choice.choice(FIT[THIN]))) for _ in range(4)] + [(THIN, (UNDONE,) * 3)]
        counted = {"commit": 0, "abort": 0, "wait": 0}
        for protocol in protocols:
            graph, kept = graph_of(protocol), {}

            def tellers(end, silent):
                if (end, silent) not in kept:
                    kept[end, silent] = telling(graph, end, silent)
                return kept[end, silent]

            for view in views_of(protocol):
                counted[self.check_view(protocol, graph, view, tellers)] += 1
        self.assertGreater(min(counted.values()), 50)

    def test_any_end_may_be_the_other_one(self):
        # Both twins look alike to all that are up: the same phases, and nothing heard of an end.
        for protocol in (USUAL, MIXED, alike_for(*commit_with_work(), 3)):
            for view in views_of(protocol):
                pair = twins(protocol, view)
                if pair is not None:
                    one, other = [led(protocol, run) for run in pair]
                    self.assertTrue(same(
                        [site for site, phase in zip(one[1], view) if phase is not None],
                        [site for site, phase in zip(other[1], view) if phase is not None]))


if __name__ == "__main__":
    unittest.main()
