"""[K3]: the texts of the logs of sites."""

import itertools
import random
import re
import unittest

from doubtbooks.errors import BadLog
from doubtbooks.managerlogs import read_site, site_text
from doubtbooks.managers import Manager
from tests.helping import USUAL, VOTES, Unchanged, any_values, called, raised, same

ROWS = ("begun", "committed", "aborted", "ended", "prepared")
NAMES = ("a", "z9", "0", "sure", "begun", "x" * 20)
LINE = re.compile(r"[a-z0-9]{1,20} (begun|committed|aborted|ended|prepared)( sure)?", re.ASCII)
WRONG_LINES = (
    "", " ", "a", "a ", " begun", "begun", "a  begun", " a begun", "a begun ", "a begun  sure", "a begun sure ", "a begun Sure",
    "a begun sures", "a begun sure sure", "a begun unsure", "a sure", "a sure begun", "A begun", "a Begun", "a_ begun",
    "x" * 21 + " begun", "a gone", "a beguns", "a begu", "a begun,sure", "a,begun", "a\tbegun", "a begun\r", "a voting",
    "a none", "a lazy", "a forced", "a prepared 1", "a b begun", "a begun committed", "a yes", "a out sure", "a begun\x0b")


def drawn(choice, many):
    rows = tuple((choice.choice(NAMES), choice.choice(ROWS)) for _ in range(many))
    return rows, choice.randint(0, many)


def text_by_hand(rows, sure):
    return "".join(f"{name} {row}{' sure' if k < sure else ''}\n" for k, (name, row) in enumerate(rows))


def by_hand(value):
    """[K3] once more: the pair, or the number of the line that is wrong."""
    if not isinstance(value, str):
        return 0
    lines = value.split("\n")
    whole = lines[-1] == ""
    lines = lines[:-1] if whole else lines
    rows, sures = [], []
    for k, line in enumerate(lines):
        if not LINE.fullmatch(line) or k >= 200:
            return k
        words = line.split()
        sures.append(len(words) == 3)
        if sures[-1] and False in sures:
            return k
        rows.append(tuple(words[:2]))
    return (tuple(rows), sum(sures)) if whole else len(lines) - 1


class SiteTextTest(unittest.TestCase):

    def test_each_row(self):
        for name, row in itertools.product(NAMES, ROWS):
            self.assertEqual(site_text(((name, row),), 0), name + " " + row + "\n")
            self.assertEqual(site_text(((name, row),), 1), name + " " + row + " sure\n")

    def test_drawn_ones(self):
        choice = random.Random(430)
        self.assertEqual(site_text((), 0), "")
        for many in (0, 1, 2, 3, 10, 199, 200):
            for _ in range(12):
                rows, sure = drawn(choice, many)
                text = site_text(rows, sure)
                self.assertEqual(text, text_by_hand(rows, sure))
                self.assertTrue(same(read_site(text), (rows, sure)))

    def test_how_many_are_sure(self):
        rows = (("a", "begun"), ("b", "ended"), ("a", "ended"))
        for sure in range(4):
            self.assertEqual(site_text(rows, sure).count(" sure\n"), sure)
            self.assertTrue(same(read_site(site_text(rows, sure)), (rows, sure)))

    def test_unlike_logs_have_unlike_texts(self):
        choice = random.Random(431)
        logs = {drawn(choice, choice.randint(0, 3)) for _ in range(2000)}
        self.assertEqual(len({site_text(*log) for log in logs}), len(logs))

    def test_logs_of_managers(self):
        manager = Manager(USUAL)
        for name in ("a", "b", "c"):
            manager.enter(name)
            for deed in VOTES + (("hear", 0, "commit"),):
                manager.do(name, deed)
        for site in range(3):
            self.assertTrue(same(read_site(site_text(*manager.log_of(site))), manager.log_of(site)))

    def test_calls(self):
        choice = random.Random(432)
        for many in range(12):
            rows, sure = drawn(choice, many)
            called(self, site_text, lambda: site_text((("a", "begun"),), 1), rows=rows, sure=sure)


class ReadSiteTest(unittest.TestCase):

    def check(self, value, line):
        self.assertTrue(same(raised(BadLog, read_site, value), {"line": line}), value)
        self.assertEqual(by_hand(value), line, value)

    def test_no_string(self):
        for value in any_values():
            if not isinstance(value, str):
                with Unchanged(self, value):
                    self.check(value, 0)
        for value in (("a begun\n",), ["a begun\n"], (("a", "begun"),), ((), 0)):
            self.check(value, 0)

    def test_strings_of_all_kinds(self):
        for value in any_values():
            if isinstance(value, str) and value:
                self.check(value, 0)
        self.assertTrue(same(read_site(""), ((), 0)))

    def test_each_wrong_line(self):
        for line in WRONG_LINES:
            self.check(line + "\n", 0)
            self.check("a begun\n" + line + "\n", 1)
            self.check("a begun sure\nb begun\n" + line + "\na begun\n", 2)
            # The first that is wrong.
            self.check("a begun sure\n" + line + "\n" + line, 1)

    def test_sure_behind_one_without(self):
        self.check("a begun\nb begun sure\n", 1)
        self.check("a begun sure\nb begun\nc begun\nd begun sure\ne gone\n", 3)
        self.check("a begun\nb begun sure", 1)
        self.assertEqual(read_site("a begun sure\nb begun sure\nc begun\n")[1], 2)

    def test_the_last_line_feed(self):
        for many in (1, 2, 5, 200):
            text = "a begun\n" * many
            self.assertEqual(len(read_site(text)[0]), many)
            self.check(text[:-1], many - 1)
            self.check(text + "\n", min(many, 200))
            self.check(text + " ", many)
        self.check("\n", 0)
        self.check("\n\n", 0)
        self.check("a begun\n\n", 1)
        self.check("a begun\n\na begun\n", 1)
        self.check("a gone\na begun", 0)

    def test_two_hundred_rows(self):
        text = "a begun sure\n" * 200
        self.assertEqual(read_site(text), ((("a", "begun"),) * 200, 200))
        for more in ("a begun\n", "a begun", "a begun sure\n", "gone", "\n", "a begun\n" * 100):
            self.check(text + more, 200)
        self.check("a begun\n" * 150 + "a begun sure\n" + "a begun\n" * 100, 150)
        self.check("a begun\n" * 200 + "a begun sure\n", 200)

    def test_drawn_ones(self):
        choice = random.Random(433)
        right = 0
        for _ in range(3000):
            text = site_text(*drawn(choice, choice.randint(0, 5)))
            for _ in range(choice.randint(0, 2)):
                k = choice.randint(0, len(text))
                text = text[:k] + choice.choice(("", " ", "\n", "a", "A", "sure", " sure", "b ended\n")) + text[k + choice.randint(0, 3):]
            wanted = by_hand(text)
            if isinstance(wanted, int):
                self.check(text, wanted)
            else:
                right += 1
                self.assertTrue(same(read_site(text), wanted))
                self.assertEqual(site_text(*wanted), text)
        self.assertGreater(right, 500)

    def test_calls(self):
        for value in any_values() + ["a begun\n", "a begun sure\nb ended\n", "a begun", "a begun\na begun sure\n"]:
            called(self, read_site, lambda: read_site("z ended sure\n"), value=value)


if __name__ == "__main__":
    unittest.main()
