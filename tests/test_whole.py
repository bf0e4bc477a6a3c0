"""[A3], over the whole program: equal calls, by place and by names in any order, with any other calls between."""

import copy
import importlib
import itertools
import random
import unittest

from doubtbooks.managers import Manager
from doubtbooks.shells import Shell
from doubtbooks.standings import start
from doubtbooks.treemoving import led_tree, open_tree, start_tree
from tests.helping import (
    DONE, MANNERS, THIN, UNDONE, USUAL, VOTES, any_values, outcome, same, shown, some_protocols, some_trees,
    standings_along, tree_walk)
from tests.test_interface import FUNCTIONS

VALUES = any_values() + [VOTES, THIN, UNDONE, USUAL, start(USUAL), "a begun\n", "begin\nyes 0", (None, None, None), (1, 1, 1, 1)]


def arguments_of(name, parameters, choice):
    """Some arguments of a function, by their names; those that go together fit together."""
    protocol = some_protocols(1, choice.random(), 3)[0]
    tree = some_trees(1, choice.random(), 1, 4)[0]
    size, nodes = len(protocol[1]), len(tree[1])
    run = tuple(deed for standing, deed, behind in tree_walk(tree, choice, choice.randint(0, 9)))
    in_tree = parameters[0] == "tree"
    rows = tuple((choice.choice("abc"), choice.choice(("begun", "ended"))) for _ in range(choice.randint(0, 4)))
    standing = led_tree(tree, run) if in_tree else choice.choice(standings_along(protocol, choice, 8))
    deeds = choice.choice((run if in_tree else VOTES[:choice.randint(0, 5)], (None,), (("begin",), ("begin",))))
    phases = ("active", "prepared", "committed", "aborted", "blank", "out", None)
    found = {
        "protocol": protocol, "tree": tree, "head": protocol[0], "manner": choice.choice(MANNERS), "standing": standing,
        "value": choice.choice(VALUES), "deeds": deeds, "node": choice.randint(1, nodes), "lost": choice.random() < 0.5,
        "deed": choice.choice((("begin",), ("quit", 0), ("fall", 1, 0), None, choice.choice(VALUES))),
        "many": choice.choice((2, 3, 6, None, choice.choice(VALUES))), "end": choice.choice(("abort", "commit")),
        "presumed": choice.choice(("abort", "commit")), "phase": choice.choice(phases[:-1]),
        "view": tuple(choice.choice(phases) for _ in range(size)), "wanted": (None,) * choice.choice((size + 1, 1)),
        "readers": tuple(sorted(choice.sample(range(size), choice.randint(0, size)))),
        "prices": choice.choice(((10, 1, 1, 4), (10, 1, 1, 20), (0, 0, 0, 0), (1, 2, 3))),
        "commits": choice.choice((0, 1, 7, True)), "aborts": choice.choice((0, 1, 3, -1)), "rows": rows,
        "sure": choice.randint(0, len(rows))}
    if name == "run_text":
        found["deeds"] = VOTES
    return {parameter: found[parameter] for parameter in parameters}


def some_calls(seed, many):
    """Triples of a function, its arguments by their names, and a word for it."""
    choice = random.Random(seed)
    calls = []
    for module, functions in FUNCTIONS.items():
        loaded = importlib.import_module("doubtbooks." + module)
        for name, parameters in functions.items():
            for _ in range(many if parameters else 1):
                arguments = arguments_of(name, parameters, choice) if parameters else {}
                calls.append((getattr(loaded, name), arguments, module + "." + name))
    return calls


class WholeTest(unittest.TestCase):

    def test_in_any_order(self):
        choice = random.Random(500)
        calls = some_calls(501, 6)
        names = {name for function, arguments, name in calls}
        self.assertEqual(len(names), sum(len(functions) for functions in FUNCTIONS.values()))
        handed_in = copy.deepcopy([arguments for function, arguments, name in calls])
        told = [outcome(function, *arguments.values()) for function, arguments, name in calls]
        printed = [repr(each) for each in told]
        kinds = {each[0] for each in told}
        self.assertEqual(kinds, {"returned", "raised"})
        for _ in range(3):
            order = list(range(len(calls)))
            choice.shuffle(order)
            for k in order:
                function, arguments, name = calls[k]
                names = list(arguments)
                choice.shuffle(names)
                again = outcome(function, **{each: arguments[each] for each in names})
                self.assertEqual(repr(again), printed[k], (name, arguments))
        # Neither what was returned has changed by then, nor what was handed in.
        self.assertEqual([repr(each) for each in told], printed)
        self.assertTrue(same([arguments for function, arguments, name in calls], handed_in))

    def test_each_order_of_names(self):
        for function, arguments, name in some_calls(502, 2):
            wanted = repr(outcome(function, *arguments.values()))
            for names in itertools.permutations(arguments):
                told = outcome(function, **{each: arguments[each] for each in names})
                self.assertEqual(repr(told), wanted, (name, arguments))

    def test_some_by_place_and_others_by_name(self):
        for function, arguments, name in some_calls(503, 2):
            wanted = repr(outcome(function, *arguments.values()))
            for many in range(len(arguments)):
                by_name = dict(list(arguments.items())[many:])
                self.assertEqual(repr(outcome(function, *list(arguments.values())[:many], **by_name)), wanted, name)

    def test_managers_and_shells_between(self):
        choice = random.Random(504)
        calls = some_calls(505, 2)
        told = [repr(outcome(function, *arguments.values())) for function, arguments, name in calls]
        manager, shell = Manager(USUAL), Shell()
        alone, other = Manager(USUAL), Shell()
        lines = ["way presumed_commit 2", "enter a", "do a begin", "do a yes 1", "enter b", "fall 0 1", "home", "log 0"]
        steps = [("enter", "a")] + [("do", "a", deed) for deed in VOTES] + [("fall", 1, 1), ("go_home",), ("do", "a", None)]
        wanted = [(repr(outcome(getattr(alone, step[0]), *step[1:])), repr(shown(alone))) for step in steps]
        answers = [other.say(line) for line in lines]
        for k, (function, arguments, name) in enumerate(calls):
            if k % 8 == 0 and steps:
                step = steps.pop(0)
                self.assertEqual((repr(outcome(getattr(manager, step[0]), *step[1:])), repr(shown(manager))), wanted.pop(0))
            if k % 8 == 4 and lines:
                self.assertEqual(shell.say(lines.pop(0)), answers.pop(0))
            self.assertEqual(repr(outcome(function, *arguments.values())), told[k], name)
            if choice.random() < 0.1:
                Manager(some_protocols(1, k)[0]).enter("a")
        self.assertEqual((steps, lines), ([], []))

    def test_what_was_returned_may_be_handed_in(self):
        tree = (THIN, ((0, "none") + UNDONE[:5] + (False,), (0, "none") + DONE[:5] + (False,)))
        returned = [
            start(USUAL), start_tree(tree), open_tree(tree, start_tree(tree)), Manager(USUAL), Shell(), led_tree(tree, VOTES[:1])]
        for module, functions in FUNCTIONS.items():
            loaded = importlib.import_module("doubtbooks." + module)
            for name, parameters in functions.items():
                if "value" in parameters:
                    for value in returned:
                        ahead = {"protocol": USUAL, "tree": tree, "standing": start(USUAL)}
                        arguments = {each: ahead.get(each, value) for each in parameters}
                        told = outcome(getattr(loaded, name), **arguments)
                        right = name == "standing_error" and same(value, start(USUAL))
                        self.assertEqual(told[0] == "returned" and told[1] is None, right, (name, value))


if __name__ == "__main__":
    unittest.main()
