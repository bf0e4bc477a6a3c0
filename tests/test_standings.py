"""[B2], [B4], and start of [B5]: the shape of standings."""

import itertools
import unittest

from doubtbooks.standings import standing_error, start
from tests.helping import (
    DONE, THIN, UNDONE, USUAL, VOTES, Plain, Unchanged, any_values, changed_parts, same, some_protocols)

IDLE = ("idle", (), 0, ())
ACTIVE = ("active", (), 0)
THREE = (THIN, (UNDONE, DONE, UNDONE))


def of_three(coordinator=IDLE, participants=(ACTIVE,) * 3, letters=(), told=()):
    """A value for a protocol of three participants, right where nothing else is told."""
    return (coordinator, participants, letters, told)


class StandingCase(unittest.TestCase):

    def right(self, **parts):
        self.assertIsNone(standing_error(THREE, of_three(**parts)), parts)

    def wrong(self, wanted, **parts):
        self.assertTrue(same(standing_error(THREE, of_three(**parts)), wanted), parts)


class StartTest(unittest.TestCase):

    def test_each_number_of_participants(self):
        for many in range(1, 7):
            protocol = (THIN, (UNDONE,) * many)
            wanted = (("idle", (), 0, ()), (("active", (), 0),) * many, (), ())
            self.assertTrue(same(start(protocol), wanted))
            self.assertTrue(same(start(protocol=protocol), wanted))

    def test_unlike_participants(self):
        self.assertEqual(start(THREE), of_three())


class FormTest(StandingCase):

    def test_any_value(self):
        for value in any_values():
            with Unchanged(self, value):
                self.assertEqual(standing_error(USUAL, value), "form", value)
                self.assertEqual(standing_error(protocol=USUAL, value=value), "form")

    def test_items(self):
        for value in (list(of_three()), of_three()[:3], of_three() + ((),), (of_three(),)):
            self.assertEqual(standing_error(THREE, value), "form", value)

    def test_participants(self):
        for value in ((ACTIVE,) * 2, (ACTIVE,) * 4, (), [ACTIVE] * 3, None, {0: ACTIVE, 1: ACTIVE, 2: ACTIVE}):
            self.wrong("form", participants=value)
            self.wrong("form", coordinator=None, participants=value, letters=None, told=None)

    def test_as_many_as_the_protocol_has(self):
        for many in range(1, 7):
            for other in range(1, 7):
                error = standing_error((THIN, (DONE,) * many), start((THIN, (DONE,) * other)))
                self.assertEqual(error, None if many == other else "form")


class CoordinatorTest(StandingCase):

    def refused(self, coordinator):
        self.wrong("coordinator", coordinator=coordinator)
        self.wrong("coordinator", coordinator=coordinator, participants=(None,) * 3, letters=None, told=None)

    def test_phases(self):
        for phase in ("idle", "voting", "committing", "aborting", "unknown"):
            self.right(coordinator=(phase, ("begun",), 1, (0, 1, 2)))
        for value in any_values() + ["begun", "active", "prepared", ("voting",), ["voting"], "Voting"]:
            if value != "idle":
                self.refused((value, (), 0, ()))

    def test_form(self):
        for value in any_values() + [list(IDLE), IDLE[:3], IDLE + ((),), (IDLE,), "idle", ACTIVE]:
            self.refused(value)

    def test_rows(self):
        words = ("begun", "committed", "aborted", "ended")
        for many in range(4):
            for log in itertools.permutations(words, many):
                for sure in range(many + 1):
                    self.right(coordinator=("unknown", log, sure, ()))
        for log in itertools.permutations(words, 4):
            self.refused(("unknown", log, 0, ()))
        for log in itertools.product(words, repeat=3):
            if len(set(log)) < 3:
                self.refused(("unknown", log, 0, ()))
        for log in (("prepared",), ("begun", "prepared"), ("begun", None), ("begun", "begun"), ["begun"], "begun",
                    {"begun": 0}, ("begun", ("ended",)), (True,), ([],), ({},), ("begun", "begun", "begun", "begun")):
            self.refused(("unknown", log, 0, ()))
        for value in any_values():
            if value != ():
                self.refused(("idle", value, 0, ()))

    def test_sure(self):
        for log in ((), ("begun",), ("begun", "aborted"), ("begun", "aborted", "ended")):
            for sure in (-1, len(log) + 1, 4, True, False, None, "0", (0,), [0], 10 ** 400 - 1, ()):
                self.refused(("aborting", log, sure, ()))

    def test_heard(self):
        for heard in ((), (0,), (1,), (2,), (0, 1), (0, 2), (1, 2), (0, 1, 2)):
            self.right(coordinator=("idle", (), 0, heard))
        for heard in ((3,), (-1,), (True,), (False,), (1, 0), (0, 0), (0, 1, 1), (0, 2, 1), (0, 1, 2, 3), (None,),
                      [0], ["0"], ("0",), (0, None), (0, (1,)), 0, None, "", "01", {0: 1}, ((0, 1),), (0, True),
                      (False, 1), (10 ** 400 - 1,), (0, [])):
            self.refused(("voting", (), 0, heard))


class ParticipantTest(StandingCase):

    def refused(self, participant):
        for i in range(3):
            participants = (ACTIVE,) * i + (participant,) + (ACTIVE,) * (2 - i)
            self.wrong(("participant", i), participants=participants)
            participants = (ACTIVE,) * i + (participant,) * (3 - i)
            self.wrong(("participant", i), participants=participants, letters=None, told=None)

    def accepted(self, participant):
        for i in range(3):
            self.right(participants=(ACTIVE,) * i + (participant,) + (ACTIVE,) * (2 - i))

    def test_phases(self):
        for phase in ("active", "prepared", "committed", "aborted", "blank", "out"):
            self.accepted((phase, ("prepared",), 1))
        for value in any_values() + ["idle", "voting", "unknown", ("active",), ["active"], "Active"]:
            self.refused((value, (), 0))

    def test_form(self):
        for value in any_values() + [list(ACTIVE), ACTIVE[:2], ACTIVE + ((),), (ACTIVE,), "active", IDLE]:
            self.refused(value)

    def test_rows(self):
        words = ("prepared", "committed", "aborted")
        for many in range(3):
            for log in itertools.permutations(words, many):
                for sure in range(many + 1):
                    self.accepted(("blank", log, sure))
        for log in itertools.permutations(words, 3):
            self.refused(("blank", log, 0))
        for row in words:
            self.refused(("blank", (row, row), 0))
        for log in (("begun",), ("ended",), ("prepared", None), ["prepared"], "prepared", (("prepared",),),
                    ("prepared", True), ([],), {"prepared": 1}):
            self.refused(("blank", log, 0))
        for value in any_values():
            if value != ():
                self.refused(("active", value, 0))

    def test_sure(self):
        for log in ((), ("prepared",), ("prepared", "aborted")):
            for sure in (-1, len(log) + 1, 3, True, False, None, "0", (0,), [0], 10 ** 400 - 1, ()):
                self.refused(("aborted", log, sure))


class LettersTest(StandingCase):

    def refused(self, letters):
        self.wrong("letters", letters=letters)
        self.wrong("letters", letters=letters, told=None)

    def test_all_letters(self):
        words = ("prepare", "commit", "abort", "yes", "no", "committed", "aborted")
        every = tuple(sorted(itertools.product(range(3), words)))
        self.assertEqual(len(every), 21)
        self.right(letters=every)
        for letter in every:
            self.right(letters=(letter,))
        for k in range(20):
            self.refused(every[:k] + (every[k + 1], every[k]) + every[k + 2:])
            self.refused(every[:k + 1] + every[k:])

    def test_letters(self):
        for letters in (((3, "yes"),), ((-1, "yes"),), ((True, "yes"),), ((False, "no"),), ((0, "ask"),), ((0, None),),
                        ((0, "Yes"),), ((0, ("yes",)),), ((0, []),), ((0, "yes", ()),), ((0,),), ("yes",), (0,), ([0, "yes"],),
                        [(0, "yes")], {(0, "yes"): 1}, (("yes", 0),), ((0, "yes"), (0, "yes")), (None,), ((),), "",
                        ((0, "yes"), (1, "wrong")), ((None, "yes"),), (((0, "yes"),),), ((0, "begun"),),
                        ((0, "yes"), (0, "no")), ((1, "no"), (0, "yes")), ((0, "thanked"),), ((0, "prepared"),)):
            self.refused(letters)
        for value in any_values():
            if value != ():
                self.refused(value)


class ToldTest(StandingCase):

    def test_told(self):
        for told in ((), ("abort",), ("commit",), ("abort", "commit")):
            self.right(told=told)
        for told in any_values() + [("commit", "abort"), ("abort", "abort"), ("commit", "commit"), ["abort"], "abort",
                                    ("aborted",), (("abort",),), (None,), ("abort", None), ("abort", "commit", "commit")]:
            if told != ():
                self.wrong("told", told=told)


class OrderTest(StandingCase):

    def test_the_first_that_applies(self):
        participants = (ACTIVE, ("sleeping", (), 0), ACTIVE)
        parts = {"coordinator": None, "participants": participants, "letters": None, "told": None}
        self.wrong("coordinator", **parts)
        self.wrong(("participant", 1), **{**parts, "coordinator": IDLE})
        self.wrong("letters", **{**parts, "coordinator": IDLE, "participants": (ACTIVE,) * 3})
        self.wrong("told", told=None)

    def test_changed_parts_of_one_that_comes(self):
        plain = Plain(USUAL)
        for deed in VOTES + (("hear", 0, "commit"), ("thanked", 0)):
            plain.do(deed)
        standing = plain.standing()
        self.assertIsNone(standing_error(USUAL, standing))
        words = {"form", "coordinator", ("participant", 0), ("participant", 1), "letters", "told"}
        met = set()
        for value in changed_parts(standing, (None, True, 0, 5, "yes", "begun", (), [])):
            with Unchanged(self, value):
                met.add(standing_error(USUAL, value))
        self.assertEqual(met, words | {None})

    def test_starts(self):
        for protocol in some_protocols(50, 4):
            self.assertIsNone(standing_error(protocol, start(protocol)))


if __name__ == "__main__":
    unittest.main()
