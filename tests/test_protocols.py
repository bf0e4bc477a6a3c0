"""[A4], [A5], [A6]: heads, manners, protocols, and what is told of other values."""

import unittest

from doubtbooks.errors import Unfit
from doubtbooks.protocols import alike_for, head_error, manner_error, protocol_error
from tests.helping import (
    DONE, HEADS, MANNERS, THIN, UNDONE, USUAL, Unchanged, any_values, changed_parts, raised, same, some_protocols)

NO_STRENGTHS = [value for value in any_values() if value != "forced"] + ["None", "Forced", " lazy", "lazy "]


class HeadTest(unittest.TestCase):

    def test_all_heads(self):
        self.assertEqual(len(HEADS), 27)
        for head in HEADS:
            self.assertIsNone(head_error(head))

    def test_form(self):
        for value in any_values():
            if value != THIN and not (isinstance(value, tuple) and len(value) == 3):
                self.assertEqual(head_error(value), "form", value)
        for value in (THIN[:2], THIN + ("none",), THIN[:1], list(THIN), (THIN,), "none", (THIN, THIN), UNDONE):
            self.assertEqual(head_error(value), "form", value)

    def test_first_wrong_strength(self):
        for i in range(3):
            for wrong in NO_STRENGTHS:
                value = list(THIN)
                value[i:] = [wrong] * (3 - i)
                self.assertTrue(same(head_error(tuple(value)), ("strength", i)), value)
                value = list(THIN)
                value[i] = wrong
                self.assertTrue(same(head_error(tuple(value)), ("strength", i)), value)

    def test_strengths_in_other_wraps(self):
        for wrong in (("none",), ["none"], {"none": 1}, "non", "nonee", ""):
            self.assertEqual(head_error(("none", wrong, "none")), ("strength", 1))


class MannerTest(unittest.TestCase):

    def test_all_manners(self):
        self.assertEqual(len(MANNERS), 432)
        self.assertEqual(len(HEADS) * len(MANNERS), 11664)
        for manner in MANNERS:
            self.assertIsNone(manner_error(manner))

    def test_form(self):
        for value in any_values():
            if not (isinstance(value, tuple) and len(value) == 6):
                self.assertEqual(manner_error(value), "form", value)
        for value in (UNDONE[:5], UNDONE + (False,), list(UNDONE), (UNDONE,), THIN, ()):
            self.assertEqual(manner_error(value), "form", value)

    def test_first_wrong_strength(self):
        for i in range(3):
            for wrong in NO_STRENGTHS:
                value = UNDONE[:i] + (wrong,) * (6 - i)
                self.assertTrue(same(manner_error(value), ("strength", i)), value)
                value = UNDONE[:i] + (wrong,) + UNDONE[i + 1:]
                self.assertTrue(same(manner_error(value), ("strength", i)), value)

    def test_thanks(self):
        wrong_ones = [value for value in any_values() if value != ()]
        wrong_ones += ["abort", "commit", "both", "none", ["abort"], ["abort", "commit"], ("commit", "abort"),
                       ("abort", "abort"), ("commit", "commit"), ("abort", "commit", "commit"), ("none",), (None,),
                       ("abort", "commit", "abort"), (("abort",),), {"abort": "commit"}, ("abort", None)]
        for wrong in wrong_ones:
            for rest in (("abort", False), (None, None)):
                self.assertEqual(manner_error(UNDONE[:3] + (wrong,) + rest), "thanks", wrong)

    def test_presumed(self):
        wrong_ones = [value for value in any_values() if value != "abort"]
        for wrong in wrong_ones + ["none", "both", ("abort",), ["commit"], "Abort", "committed"]:
            for sent in (False, 0):
                self.assertEqual(manner_error(UNDONE[:4] + (wrong, sent)), "presumed", wrong)

    def test_sent(self):
        wrong_ones = [value for value in any_values() if not isinstance(value, bool)]
        for wrong in wrong_ones + ["sent", "True", (True,), [False]]:
            self.assertEqual(manner_error(UNDONE[:5] + (wrong,)), "sent", wrong)


class ProtocolTest(unittest.TestCase):

    def test_protocols(self):
        for protocol in some_protocols(300, 1):
            self.assertIsNone(protocol_error(protocol))
        for head in HEADS:
            self.assertIsNone(protocol_error((head, (UNDONE, DONE))))
        for many in range(1, 7):
            self.assertIsNone(protocol_error((THIN, (DONE,) * many)))

    def test_form(self):
        for value in any_values():
            if not (isinstance(value, tuple) and len(value) == 2):
                self.assertEqual(protocol_error(value), "form", value)
        for value in (list(USUAL), USUAL[:1], USUAL + (None,), (THIN, UNDONE, UNDONE), {THIN: (UNDONE,)}):
            self.assertEqual(protocol_error(value), "form", value)

    def test_head(self):
        for value in any_values():
            if value != THIN:
                for manners in ((UNDONE,), (), None):
                    wanted = ("head", head_error(value))
                    self.assertTrue(same(protocol_error((value, manners)), wanted), value)
        self.assertEqual(protocol_error((("none", True, "none"), ())), ("head", ("strength", 1)))

    def test_manners(self):
        for value in any_values():
            if not (isinstance(value, tuple) and 1 <= len(value) <= 6):
                self.assertEqual(protocol_error((THIN, value)), "manners", value)
        for value in ((), (UNDONE,) * 7, (None,) * 7, (UNDONE,) * 4000, [UNDONE], [UNDONE] * 6, {0: UNDONE}):
            self.assertEqual(protocol_error((THIN, value)), "manners", value)

    def test_first_wrong_manner(self):
        for many in range(1, 7):
            for i in range(many):
                for wrong in any_values() + [list(UNDONE), UNDONE[:5], UNDONE[:5] + (1,), ("sure",) + UNDONE[1:]]:
                    if wrong == UNDONE:
                        continue
                    wanted = ("manner", i, manner_error(wrong))
                    manners = (DONE,) * i + (wrong,) * (many - i)
                    self.assertTrue(same(protocol_error((THIN, manners)), wanted), manners)
                    manners = (DONE,) * i + (wrong,) + (DONE,) * (many - i - 1)
                    self.assertTrue(same(protocol_error((THIN, manners)), wanted), manners)

    def test_changed_parts_are_told(self):
        heads, manners = {repr(head) for head in HEADS}, {repr(manner) for manner in MANNERS}
        right = 0
        for value in changed_parts((THIN, (UNDONE, DONE)), (None, True, 0, "", [], (), "abort", ("abort",))):
            wanted = (isinstance(value, tuple) and len(value) == 2 and repr(value[0]) in heads
                      and isinstance(value[1], tuple) and 1 <= len(value[1]) <= 6
                      and all(repr(manner) in manners for manner in value[1]))
            self.assertEqual(protocol_error(value) is None, wanted, value)
            right += wanted
        self.assertGreater(right, 4)

    def test_by_name_and_unchanged(self):
        for value in any_values() + [USUAL, THIN, UNDONE]:
            with Unchanged(self, value):
                for function in (head_error, manner_error, protocol_error):
                    self.assertTrue(same(function(value), function(value=value)))


class AlikeTest(unittest.TestCase):

    def test_from_one_to_six(self):
        for many in range(1, 7):
            wanted = (THIN, (DONE,) * many)
            self.assertEqual(alike_for(THIN, DONE, many), wanted)
            self.assertEqual(alike_for(manner=DONE, many=many, head=THIN), wanted)
            self.assertIsNone(protocol_error(alike_for(THIN, DONE, many)))

    def test_unfit(self):
        for value in any_values() + ["1", (1,), [2], b"1", 7, 0, -6]:
            if not (isinstance(value, int) and not isinstance(value, bool) and 1 <= value <= 6):
                with Unchanged(self, value):
                    self.assertEqual(raised(Unfit, alike_for, THIN, DONE, value), {}, value)
                    self.assertEqual(raised(Unfit, alike_for, head=THIN, manner=DONE, many=value), {}, value)


if __name__ == "__main__":
    unittest.main()
