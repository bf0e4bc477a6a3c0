"""The interface: names, arguments, their order, and the file in which each is defined."""

import ast
import importlib
import inspect
import os
import unittest

import doubtbooks

PACKAGE = os.path.dirname(os.path.abspath(doubtbooks.__file__))

FUNCTIONS = {
    "protocols": {
        "head_error": ["value"], "manner_error": ["value"], "protocol_error": ["value"],
        "alike_for": ["head", "manner", "many"]},
    "protocoltexts": {"protocol_text": ["protocol"], "read_protocol": ["value"]},
    "knownways": {
        "presumed_abort": [], "abort_with_work": [], "presumed_commit": [], "commit_with_work": [],
        "all_forced": ["presumed"]},
    "standings": {"standing_error": ["protocol", "value"], "start": ["protocol"]},
    "moving": {
        "deed_error": ["protocol", "standing", "value"], "open_deeds": ["protocol", "standing"],
        "after": ["protocol", "standing", "deed"], "led": ["protocol", "deeds"]},
    "deedtexts": {"run_text": ["deeds"], "read_run": ["value"]},
    "ending": {"is_split": ["standing"], "is_home": ["protocol", "standing"]},
    "homing": {"way_home": ["protocol", "standing"], "all_fall": ["protocol", "standing", "lost"]},
    "fitting": {"lacks": ["head", "manner"], "fits": ["head", "manner"], "is_safe": ["protocol"]},
    "strengthening": {"least_ways": [], "needless": ["protocol"], "fewest_steps": ["protocol"]},
    "splitting": {"splitting": ["protocol"], "watched": ["protocol"]},
    "splitjudge": {"splitting_error": ["protocol", "value"]},
    "wandering": {
        "come": ["protocol"], "shortest_split": ["protocol"], "ends_yet": ["protocol", "standing"],
        "meetings": ["protocol", "wanted"]},
    "doubting": {
        "knows_unsaid": ["manner", "phase"], "may_end": ["protocol", "view"], "twins": ["protocol", "view"]},
    "costs": {"plain_run": ["protocol", "end", "readers"], "counts": ["protocol", "deeds"]},
    "prices": {
        "price": ["protocol", "prices", "commits", "aborts"], "cheapest": ["prices", "many", "commits", "aborts"],
        "commits_for": ["prices", "many", "aborts"]},
    "trees": {"tree_error": ["value"], "below": ["tree", "node"]},
    "treefitting": {"edge_lacks": ["tree", "node"], "is_safe_tree": ["tree"]},
    "treemoving": {
        "start_tree": ["tree"], "open_tree": ["tree", "standing"], "after_tree": ["tree", "standing", "deed"],
        "led_tree": ["tree", "deeds"]},
    "treesplits": {"splitting_tree": ["tree"], "splitting_tree_error": ["tree", "value"]},
    "managerlogs": {"site_text": ["rows", "sure"], "read_site": ["value"]},
}

CLASSES = {
    "managers": {"Manager": {
        "__init__": ["protocol"], "enter": ["name"], "do": ["name", "deed"], "fall": ["site", "kept"], "go_home": [],
        "standing_of": ["name"], "deeds_of": ["name"], "log_of": ["site"], "split_names": [], "twin": []}},
    "shells": {"Shell": {"__init__": [], "say": ["line"]}},
}

ERRORS = {
    "DoubtError": None, "Unfit": [], "BadProtocol": ["error"], "BadText": ["line"], "BadLog": ["line"],
    "Refused": ["deed"], "TooMany": ["limit"]}


def defined_in(module):
    """The names that are defined at the top of this file by def or class."""
    with open(os.path.join(PACKAGE, module + ".py"), encoding="ascii") as text:
        body = ast.parse(text.read()).body
    return [node.name for node in body if isinstance(node, (ast.FunctionDef, ast.ClassDef))]


class InterfaceTest(unittest.TestCase):

    def test_functions(self):
        for module, functions in FUNCTIONS.items():
            loaded = importlib.import_module("doubtbooks." + module)
            for name, arguments in functions.items():
                self.assertIn(name, defined_in(module))
                parameters = inspect.signature(getattr(loaded, name)).parameters.values()
                self.assertEqual([each.name for each in parameters], arguments, name)
                for each in parameters:
                    self.assertEqual((each.kind, each.default), (each.POSITIONAL_OR_KEYWORD, each.empty), name)

    def test_methods_stand_in_their_class(self):
        for module, classes in CLASSES.items():
            loaded = importlib.import_module("doubtbooks." + module)
            for name, methods in classes.items():
                self.assertIn(name, defined_in(module))
                own = vars(getattr(loaded, name))
                for method, arguments in methods.items():
                    parameters = list(inspect.signature(own[method]).parameters.values())
                    self.assertEqual([each.name for each in parameters[1:]], arguments, method)
                    for each in parameters:
                        self.assertEqual((each.kind, each.default), (each.POSITIONAL_OR_KEYWORD, each.empty), method)

    def test_errors(self):
        loaded = importlib.import_module("doubtbooks.errors")
        for name, fields in ERRORS.items():
            self.assertIn(name, defined_in("errors"))
            if fields:
                parameters = inspect.signature(getattr(loaded, name).__init__).parameters
                self.assertEqual(list(parameters)[1:], fields)


if __name__ == "__main__":
    unittest.main()
