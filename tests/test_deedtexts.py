"""[B7]: the texts of deeds and of runs."""

import itertools
import unittest

from doubtbooks.deedtexts import read_run, run_text
from doubtbooks.errors import BadText
from tests.helping import ENDS, VOTES, Unchanged, any_values, raised, same

ONE_ITEM = ("yes", "no", "read", "count", "refused", "thanked", "ask", "restore")

ALL_DEEDS = (
    (("begin",), ("quit",))
    + tuple((word, i) for word in ONE_ITEM for i in range(6))
    + tuple(("hear", i, end) for i in range(6) for end in ENDS)
    + tuple(("stop", kept) for kept in range(4))
    + tuple(("fall", i, kept) for i in range(6) for kept in range(4)))

WRONG_LINES = (
    "", " ", "begin ", " begin", "begin 0", "Begin", "begins", "begi", "quit 0", "yes", "yes ", "yes  0", "yes 0 ",
    " yes 0", "yes 0 0", "yes 6", "yes 10", "yes 00", "yes 01", "yes +1", "yes -1", "yes -0", "yes 0.0", "yes 0x1", "yes x",
    "yes True", "yes 1_", "yes 0_1", "yes\t0", "yes,0", "yes 0\r", "yes0", "yes 9999999999", "yes None", "yes (0)",
    "hear", "hear 0", "hear 0 ", "hear 0 none", "hear 0 both", "hear 0 Abort", "hear 0 committed", "hear abort 0",
    "hear 6 abort", "hear 0  abort", "hear 0 abort ", "hear 0 abort 0", "hear abort", "hear 00 abort", "hear 0 1",
    "stop", "stop ", "stop 4", "stop 03", "stop 00", "stop -1", "stop +0", "stop 0 0", "stop abort", "stop  1", "stop 10",
    "fall", "fall 0", "fall 0 ", "fall 0 4", "fall 6 0", "fall 0 00", "fall 00 0", "fall 0 0 0", "fall 0 -1", "fall  0 0",
    "fall 0  0", "fall 0 x", "vote 0", "decide abort", "thanked 6", "count commit", "participant 0", "0", "0 yes")


class RunTextTest(unittest.TestCase):

    def test_each_deed(self):
        self.assertEqual(len(ALL_DEEDS), 90)
        for deed in ALL_DEEDS:
            text = " ".join(str(item) for item in deed)
            self.assertEqual(run_text((deed,)), text)
            self.assertTrue(same(read_run(text), (deed,)))

    def test_many(self):
        self.assertEqual(run_text(()), "")
        self.assertEqual(run_text(VOTES), "begin\nyes 0\nyes 1\ncount 0\ncount 1")
        for many in (1, 90, 399, 400):
            deeds = (ALL_DEEDS * 5)[:many]
            text = run_text(deeds)
            self.assertEqual(text.count("\n"), many - 1)
            self.assertTrue(same(read_run(text), deeds))

    def test_unlike_tuples_have_unlike_texts(self):
        tuples = [()] + [(deed,) for deed in ALL_DEEDS] + list(itertools.product(ALL_DEEDS, repeat=2))
        self.assertEqual(len({run_text(deeds) for deeds in tuples}), len(tuples))

    def test_by_name_and_unchanged(self):
        with Unchanged(self, ALL_DEEDS):
            self.assertEqual(run_text(deeds=ALL_DEEDS), run_text(ALL_DEEDS))
        self.assertEqual(read_run(value=run_text(ALL_DEEDS)), ALL_DEEDS)


class ReadRunTest(unittest.TestCase):

    def check(self, value, line):
        self.assertTrue(same(raised(BadText, read_run, value), {"line": line}), value)

    def test_empty(self):
        self.assertTrue(same(read_run(""), ()))

    def test_no_strings(self):
        for value in any_values() + [("begin",), ["begin"], (("begin",),), 7]:
            if not isinstance(value, str):
                with Unchanged(self, value):
                    self.check(value, 0)
                    self.assertEqual(raised(BadText, read_run, value=value), {"line": 0})

    def test_other_strings(self):
        for value in any_values():
            if isinstance(value, str) and value not in ("", "begin"):
                self.check(value, 0)

    def test_wrong_lines(self):
        for wrong in WRONG_LINES:
            if wrong:
                self.check(wrong, 0)
            for place in (0, 1, 2, 4):
                lines = ["begin", "yes 0", "yes 1", "hear 0 commit", "stop 3"]
                lines[place] = wrong
                self.check("\n".join(lines), place)
                self.check("\n".join(lines + ["wrong"]), place)

    def test_line_feeds(self):
        self.check("begin\n", 1)
        self.check("\nbegin", 0)
        self.check("\n", 0)
        self.check("\n\n", 0)
        self.check("begin\n\nquit", 1)
        self.check("begin\nyes 0\n", 2)

    def test_how_many(self):
        self.assertEqual(read_run("\n".join(["quit"] * 400)), (("quit",),) * 400)
        for last in ("quit", "", "wrong", "yes 0"):
            self.check("\n".join(["quit"] * 400 + [last]), 400)
            self.check("\n".join(["quit"] * 400 + [last] * 9), 400)
        self.check("\n".join(["quit"] * 399 + ["wrong"]), 399)
        self.check("\n".join(["quit"] * 399 + ["", "quit"]), 399)
        self.check("\n".join(["quit"] * 3 + ["wrong"] + ["quit"] * 500), 3)

    def test_whether_they_can_be_done_or_not(self):
        self.assertEqual(read_run("thanked 5\nbegin\nbegin\nfall 5 3"), (
            ("thanked", 5), ("begin",), ("begin",), ("fall", 5, 3)))


if __name__ == "__main__":
    unittest.main()
