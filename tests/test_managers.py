"""[K1], [K2], [K4]: managers of many transactions."""

import copy
import random
import unittest

from doubtbooks.ending import is_home, is_split
from doubtbooks.errors import BadProtocol, Refused, TooMany, Unfit
from doubtbooks.fitting import is_safe
from doubtbooks.homing import way_home
from doubtbooks.managers import Manager
from doubtbooks.moving import after, deed_error, led, open_deeds
from doubtbooks.protocols import protocol_error
from doubtbooks.splitting import splitting
from doubtbooks.standings import standing_error, start
from tests.helping import (
    DONE, THIN, UNDONE, USUAL, VOTES, PlainManager, Unchanged, any_values, changed_parts, chosen, outcome, raised,
    safe_protocols, same, shown, some_protocols)

WEAK = (("none", "lazy", "none"), (UNDONE, UNDONE))
WORK = ("none", "forced", "none", ("commit",), "abort", True)
LAZY = ("lazy", "lazy", "lazy", ("abort", "commit"), "abort", False)
ENDS = VOTES + (("hear", 0, "commit"), ("hear", 1, "commit"), ("thanked", 0), ("thanked", 1))
GOOD_NAMES = ("a", "z", "0", "9", "x1", "1x", "a" * 20, "0" * 20, "begun", "none", "sure")
BAD_NAMES = [value for value in any_values() if value not in ("begin", "forced", "abort", "idle")]
BAD_NAMES += ["A", "aB", "a ", " a", "a b", "a_b", "a-b", "a.b", "a\n", "\n", "", "a" * 21, "0" * 21, "a'", "{", "`", "/", ":"]


def manager_of(protocol, **runs):
    """A manager with transactions of these names, which have done these deeds, one behind another."""
    manager = Manager(protocol)
    for name, deeds in runs.items():
        manager.enter(name)
        for deed in deeds:
            manager.do(name, deed)
    return manager


class ManagerCase(unittest.TestCase):

    def unchanged(self, manager, error_class, method, *args):
        """The call raises this error, changes nothing, and does the same again and by names; its fields."""
        before = copy.deepcopy(shown(manager))
        with Unchanged(self, *args):
            fields = raised(error_class, getattr(manager, method), *args)
            self.assertIsNotNone(fields, (method, args))
            names = {"enter": ("name",), "do": ("name", "deed"), "fall": ("site", "kept"), "standing_of": ("name",),
                     "deeds_of": ("name",), "log_of": ("site",)}[method]
            by_name = dict(reversed(list(zip(names, args))))
            self.assertTrue(same(raised(error_class, getattr(manager, method), **by_name), fields))
        self.assertTrue(same(shown(manager), before), (method, args))
        return fields


class NewTest(ManagerCase):

    def test_without_transactions(self):
        for protocol in some_protocols(40, 400):
            for manager in (Manager(protocol), Manager(protocol=protocol)):
                self.assertIs(manager.protocol, protocol)
                self.assertTrue(same(manager.names, ()))
                self.assertEqual([manager.log_of(site) for site in range(len(protocol[1]) + 1)],
                                 [((), 0)] * (len(protocol[1]) + 1))
                self.assertEqual((manager.split_names(), manager.go_home()), ((), 0))

    def test_attributes_are_there_from_the_start(self):
        self.assertLessEqual({"protocol", "names"}, set(vars(Manager(USUAL))))
        self.assertLessEqual({"protocol", "names"}, set(vars(Manager(USUAL).twin())))

    def test_bad_protocol(self):
        wrong = list(changed_parts(USUAL, (None, True, 0, "none", (), "commit")))
        for value in any_values() + wrong + [THIN, UNDONE, (THIN, ()), (THIN, (UNDONE,) * 7), start(USUAL)]:
            error = protocol_error(value)
            with Unchanged(self, value):
                if error is not None:
                    self.assertTrue(same(raised(BadProtocol, Manager, value), {"error": error}))
                    self.assertTrue(same(raised(BadProtocol, Manager, protocol=value), {"error": error}))
                else:
                    self.assertEqual(Manager(value).protocol, value)
        self.assertEqual(raised(BadProtocol, Manager, Manager(USUAL)), {"error": "form"})


class EnterTest(ManagerCase):

    def test_names(self):
        manager = Manager(USUAL)
        for name in GOOD_NAMES:
            self.assertIsNone(manager.enter(name))
            self.assertTrue(same(manager.standing_of(name), start(USUAL)))
            self.assertTrue(same(manager.deeds_of(name), ()))
        self.assertTrue(same(manager.names, GOOD_NAMES))
        self.assertIsNone(manager.enter(name="last"))
        self.assertEqual(manager.names, GOOD_NAMES + ("last",))

    def test_no_names(self):
        manager = manager_of(USUAL, a=VOTES)
        for value in BAD_NAMES:
            self.assertEqual(self.unchanged(manager, Unfit, "enter", value), {})
        for code in range(32, 127):
            sign = chr(code)
            if not sign.islower() and not sign.isdigit():
                for name in (sign, "a" + sign, sign + "a"):
                    self.assertEqual(raised(Unfit, manager.enter, name), {})

    def test_twice(self):
        manager = manager_of(USUAL, a=VOTES, b=())
        for name in ("a", "b"):
            self.unchanged(manager, Unfit, "enter", name)
        self.assertIsNone(manager.enter("c"))

    def test_too_many(self):
        manager = Manager(USUAL)
        names = tuple("n" + str(number) for number in range(40))
        for name in names:
            self.assertIsNone(manager.enter(name))
        self.assertEqual(manager.names, names)
        self.assertEqual(self.unchanged(manager, TooMany, "enter", "more"), {"limit": 40})
        # What is no name, or stands already, is told ahead of that.
        for value in BAD_NAMES + ["n0", "n39"]:
            self.unchanged(manager, Unfit, "enter", value)
        self.assertEqual(raised(TooMany, manager.twin().enter, "more"), {"limit": 40})
        for name in names:
            manager.do(name, ("begin",))
        self.assertEqual(manager.fall(0, 0), None)


class DoTest(ManagerCase):

    def test_each_as_after(self):
        manager = manager_of(USUAL, a=(), b=VOTES[:2])
        standing = start(USUAL)
        for k, deed in enumerate(ENDS):
            standing = after(USUAL, standing, deed)
            self.assertIsNone(manager.do("a", deed) if k % 2 else manager.do(deed=deed, name="a"))
            self.assertTrue(same(manager.deeds_of("a"), ENDS[:k + 1]))
            self.assertEqual([site[:2] for site in manager.standing_of("a")[1]], [site[:2] for site in standing[1]])
            self.assertEqual(manager.standing_of("a")[2:], standing[2:])
            self.assertEqual(manager.standing_of("b")[0][0], "voting")
            self.assertEqual(manager.deeds_of("b"), VOTES[:2])

    def test_unfit_ahead_of_refused(self):
        manager = manager_of(USUAL, a=VOTES)
        for value in BAD_NAMES + ["b", "aa", ("a",), ["a"]]:
            for deed in (("begin",), ("hear", 0, "commit"), None, ("stop", 1)):
                self.assertEqual(self.unchanged(manager, Unfit, "do", value, deed), {})

    def test_refused(self):
        manager = manager_of(USUAL, a=VOTES, b=())
        for name, standing in (("a", led(USUAL, VOTES)), ("b", start(USUAL))):
            values = any_values() + [("yes", True), ["begin"], ("quit",), ("thanked", 0), ("hear", 2, "commit"), ("begin", 0)]
            for value in values:
                if deed_error(USUAL, standing, value) is not None:
                    self.assertTrue(same(self.unchanged(manager, Refused, "do", name, value), {"deed": value}))

    def test_no_falls(self):
        manager = manager_of(USUAL, a=VOTES, b=())
        standing = led(USUAL, VOTES)
        for deed in (("stop", 1), ("fall", 0, 1), ("fall", 1, 1)):
            self.assertIn(deed, open_deeds(USUAL, standing))
            self.assertEqual(self.unchanged(manager, Refused, "do", "a", deed), {"deed": deed})
        for deed in (("fall", 0, 0), ("stop", 0), ("stop", None), ("fall", 9, 9)):
            self.assertEqual(self.unchanged(manager, Refused, "do", "b", deed), {"deed": deed})


class LogTest(ManagerCase):

    def test_rows_of_all_in_one_log(self):
        both = ("forced", "forced", "forced", ("abort", "commit"), "abort", False)
        manager = manager_of((("lazy", "lazy", "lazy"), (both, LAZY)), x=VOTES[:2], y=VOTES[:3])
        self.assertTrue(same(manager.log_of(0), ((("x", "begun"), ("y", "begun")), 0)))
        self.assertTrue(same(manager.log_of(1), ((("x", "prepared"), ("y", "prepared")), 2)))
        self.assertTrue(same(manager.log_of(2), ((("y", "prepared"),), 0)))
        manager.do("x", ("yes", 1))
        self.assertTrue(same(manager.log_of(site=2), ((("y", "prepared"), ("x", "prepared")), 0)))

    def test_what_is_forced_makes_all_sure_ahead_of_it(self):
        lazy = (("lazy", "forced", "lazy"), (LAZY, UNDONE))
        manager = manager_of(lazy, x=VOTES[:1], y=VOTES[:1], z=VOTES[:2])
        self.assertEqual(manager.log_of(0), ((("x", "begun"), ("y", "begun"), ("z", "begun")), 0))
        for deed in VOTES[1:]:
            manager.do("y", deed)
        rows = (("x", "begun"), ("y", "begun"), ("z", "begun"), ("y", "committed"))
        self.assertEqual(manager.log_of(0), (rows, 4))
        # Begun of x and of z is sure now, which it is in no run of one alone.
        for name in ("x", "z"):
            self.assertEqual(manager.standing_of(name)[0][1:3], (("begun",), 1))
            self.assertEqual(led(lazy, manager.deeds_of(name))[0][1:3], (("begun",), 0))
        manager.do("x", ("quit",))
        self.assertEqual(manager.log_of(0), (rows + (("x", "aborted"),), 4))
        self.assertEqual(manager.standing_of("x")[0], ("aborting", ("begun", "aborted"), 1, ()))

    def test_at_a_participant(self):
        own = ("lazy", "forced", "lazy", ("commit",), "abort", False)
        manager = manager_of((THIN, (own, UNDONE)), x=VOTES[:2], y=VOTES)
        self.assertEqual(manager.log_of(1), ((("x", "prepared"), ("y", "prepared")), 0))
        manager.do("y", ("hear", 0, "commit"))
        self.assertEqual(manager.log_of(1), ((("x", "prepared"), ("y", "prepared"), ("y", "committed")), 3))
        self.assertEqual(manager.standing_of("x")[1][0], ("prepared", ("prepared",), 1))
        # Other sites have nothing of it.
        self.assertEqual(manager.log_of(2), ((("y", "prepared"),), 1))

    def test_a_row_behind_the_forced_one_is_not_sure(self):
        silent = (THIN, (("forced", "forced", "none", (), "abort", False),))
        manager = manager_of(silent, x=(("begin",), ("yes", 0), ("count", 0)))
        self.assertEqual(manager.log_of(0), ((("x", "committed"), ("x", "ended")), 1))
        self.assertEqual(manager.standing_of("x")[0], ("unknown", ("committed", "ended"), 1, ()))
        manager.enter("y")
        for deed in (("begin",), ("yes", 0), ("count", 0)):
            manager.do("y", deed)
        self.assertEqual(manager.log_of(0)[1], 3)
        self.assertEqual([manager.standing_of(name)[0][2] for name in ("x", "y")], [2, 1])

    def test_unfit(self):
        manager = manager_of(USUAL, a=VOTES)
        for value in any_values() + [3, -1, (0,)]:
            if same(value, 0) or same(value, 1) or same(value, 2):
                self.assertEqual(manager.log_of(value)[1], 1)
            else:
                self.assertEqual(self.unchanged(manager, Unfit, "log_of", value), {})
        for value in BAD_NAMES + ["b", "aa"]:
            self.assertEqual(self.unchanged(manager, Unfit, "standing_of", value), {})
            self.assertEqual(self.unchanged(manager, Unfit, "deeds_of", value), {})
        self.assertEqual(manager.standing_of(name="a"), manager.standing_of("a"))
        self.assertEqual(manager.deeds_of(name="a"), VOTES)


class FallTest(ManagerCase):

    def test_for_all_at_once(self):
        manager = manager_of(USUAL, a=ENDS, b=VOTES, c=VOTES[:3], d=())
        self.assertEqual(manager.log_of(0)[1], 3)
        self.assertIsNone(manager.fall(0, 3))
        self.assertEqual([manager.deeds_of(name)[-1:] for name in "abcd"], [(("stop", 2),), (("stop", 1),), (("stop", 0),), ()])
        self.assertEqual([manager.standing_of(name)[0][0] for name in "abcd"], ["unknown", "committing", "unknown", "idle"])
        self.assertEqual(manager.log_of(0), ((("a", "committed"), ("a", "ended"), ("b", "committed")), 3))
        self.assertIsNone(manager.fall(kept=4, site=1))
        self.assertEqual([manager.deeds_of(name)[-1:] for name in "abcd"],
                         [(("fall", 0, 2),), (("fall", 0, 1),), (("fall", 0, 1),), (("fall", 0, 0),)])
        self.assertEqual([manager.standing_of(name)[1][0][0] for name in "abcd"],
                         ["committed", "prepared", "prepared", "blank"])

    def test_where_the_log_is_cut(self):
        lazy = (("lazy", "lazy", "lazy"), (LAZY, LAZY))
        for kept in range(5):
            manager = manager_of(lazy, a=VOTES, b=VOTES[:1])
            # The begun of b stands behind both rows of a.
            self.assertEqual(manager.log_of(0)[0], (("a", "begun"), ("a", "committed"), ("b", "begun")))
            if kept > 3:
                self.assertEqual(self.unchanged(manager, Refused, "fall", 0, kept), {"deed": kept})
                continue
            manager.fall(0, kept)
            self.assertEqual(manager.deeds_of("a")[-1], ("stop", min(kept, 2)))
            self.assertEqual(manager.deeds_of("b")[-1], ("stop", max(kept - 2, 0)))
            self.assertEqual(manager.standing_of("a")[0][0], ("unknown", "aborting", "committing", "committing")[kept])
            self.assertEqual(manager.standing_of("b")[0][0], ("unknown", "unknown", "unknown", "aborting")[kept])

    def test_what_is_written_thereby_goes_behind(self):
        lazy = (("lazy", "none", "lazy"), (LAZY, LAZY))
        manager = manager_of(lazy, b=VOTES[:1], a=VOTES[:1], c=VOTES[:1])
        manager.fall(0, 3)
        # In the order in which they were entered; what was kept is sure, what comes anew is not.
        begun = (("b", "begun"), ("a", "begun"), ("c", "begun"))
        self.assertEqual(manager.log_of(0), (begun + (("b", "aborted"), ("a", "aborted"), ("c", "aborted")), 3))
        manager.fall(0, 4)
        aborted = (("b", "aborted"), ("a", "aborted"), ("c", "aborted"))
        self.assertEqual(manager.log_of(0), (begun + aborted, 4))
        self.assertEqual([manager.deeds_of(name)[-1] for name in "bac"], [("stop", 2), ("stop", 1), ("stop", 1)])

    def test_what_is_forced_thereby(self):
        silent = ("lazy", "lazy", "lazy", (), "abort", False)
        forced = (("lazy", "none", "forced"), (silent, silent))
        manager = manager_of(forced, a=VOTES[:1], b=VOTES[:1])
        manager.fall(0, 2)
        rows = (("a", "begun"), ("b", "begun"), ("a", "aborted"), ("a", "ended"), ("b", "aborted"), ("b", "ended"))
        self.assertEqual(manager.log_of(0), (rows, 5))
        # The row ended of a is sure by the row of b.
        self.assertEqual(manager.standing_of("a")[0], ("unknown", ("begun", "aborted", "ended"), 3, ()))
        self.assertEqual(led(forced, manager.deeds_of("a"))[0], ("unknown", ("begun", "aborted", "ended"), 2, ()))
        self.assertEqual(manager.standing_of("b")[0][2], 2)
        self.unchanged(manager, Refused, "fall", 0, 4)

    def test_who_cannot_fall(self):
        manager = manager_of(USUAL, idle=(), out=(("begin",), ("read", 0)), up=VOTES[:2])
        manager.fall(1, 1)
        self.assertEqual([manager.deeds_of(name)[-1:] for name in ("idle", "out", "up")],
                         [(("fall", 0, 0),), (("read", 0),), (("fall", 0, 1),)])
        manager.fall(1, 1)
        self.assertEqual([len(manager.deeds_of(name)) for name in ("idle", "out", "up")], [1, 2, 4])
        manager.fall(0, 0)
        self.assertEqual([len(manager.deeds_of(name)) for name in ("idle", "out", "up")], [1, 3, 5])

    def test_a_site_without_rows(self):
        manager = Manager(USUAL)
        for site in range(3):
            self.assertIsNone(manager.fall(site, 0))
            self.assertEqual(self.unchanged(manager, Refused, "fall", site, 1), {"deed": 1})
        manager.enter("a")
        self.assertIsNone(manager.fall(0, 0))
        self.assertEqual(manager.deeds_of("a"), ())
        self.assertIsNone(manager.fall(2, 0))
        self.assertEqual(manager.standing_of("a")[3], ("abort",))

    def test_unfit_ahead_of_refused(self):
        manager = manager_of(USUAL, a=VOTES)
        for value in any_values() + [3, -1]:
            if not (same(value, 0) or same(value, 1) or same(value, 2)):
                for kept in (1, None, 99):
                    self.assertEqual(self.unchanged(manager, Unfit, "fall", value, kept), {})

    def test_refused(self):
        manager = manager_of(USUAL, a=ENDS, b=VOTES[:2])
        for site in (0, 1, 2):
            rows, sure = manager.log_of(site)
            for value in any_values() + [sure - 1, len(rows) + 1]:
                if type(value) is not int or not sure <= value <= len(rows):
                    self.assertTrue(same(self.unchanged(manager, Refused, "fall", site, value), {"deed": value}))
        self.assertEqual(self.unchanged(manager, Refused, "fall", 0, True), {"deed": True})


class HomeTest(ManagerCase):

    def test_one_behind_another(self):
        manager = manager_of(USUAL, a=VOTES, b=VOTES[:2], c=(), d=ENDS)
        ways = [way_home(USUAL, manager.standing_of(name)) for name in "abcd"]
        deeds = [manager.deeds_of(name) for name in "abcd"]
        self.assertTrue(same(manager.go_home(), sum(len(way) for way in ways)))
        for name, way, before in zip("abcd", ways, deeds):
            self.assertEqual(manager.deeds_of(name), before + way)
            self.assertTrue(is_home(USUAL, manager.standing_of(name)))
        # One behind another, as the rows stand.
        self.assertEqual(manager.log_of(0)[0], (
            ("a", "committed"), ("d", "committed"), ("d", "ended"), ("a", "ended")))
        self.assertTrue(same(manager.go_home(), 0))

    def test_with_many(self):
        manager = Manager(USUAL)
        for k in range(40):
            manager.enter("n" + str(k))
            for deed in ENDS[:k % 10]:
                manager.do("n" + str(k), deed)
        self.assertGreater(manager.go_home(), 100)
        self.assertEqual(manager.split_names(), ())
        self.assertEqual(manager.go_home(), 0)

    def test_home_of_split_ones(self):
        manager = manager_of(WEAK, x=VOTES)
        manager.fall(0, 0)
        manager.do("x", ("ask", 0))
        manager.do("x", ("hear", 0, "abort"))
        self.assertEqual(manager.split_names(), ("x",))
        manager.go_home()
        self.assertEqual(manager.split_names(), ("x",))


class SplitNamesTest(ManagerCase):

    def test_ascending(self):
        manager = Manager(WEAK)
        for name in ("b", "a", "10", "9", "z"):
            manager.enter(name)
        for name in ("b", "10", "9"):
            for deed in VOTES:
                manager.do(name, deed)
        manager.fall(0, 0)
        for name in ("b", "9"):
            manager.do(name, ("ask", 0))
            manager.do(name, ("hear", 0, "abort"))
        self.assertTrue(same(manager.split_names(), ("9", "b")))
        self.assertEqual(manager.names, ("b", "a", "10", "9", "z"))

    def test_losing_runs_without_falls_of_others(self):
        # One transaction alone, whose falls are those of the sites.
        for protocol in [each for each in some_protocols(80, 402) if not is_safe(each)]:
            manager = Manager(protocol)
            manager.enter("x")
            run = splitting(protocol)
            for deed in run:
                if deed[0] == "stop":
                    manager.fall(0, deed[1])
                elif deed[0] == "fall":
                    manager.fall(deed[1] + 1, deed[2])
                else:
                    manager.do("x", deed)
            self.assertEqual(manager.deeds_of("x"), run)
            self.assertTrue(same(manager.standing_of("x"), led(protocol, run)))
            self.assertEqual(manager.split_names(), ("x",))


class TwinTest(ManagerCase):

    def test_goes_its_own_way(self):
        manager = manager_of(USUAL, a=VOTES, b=VOTES[:2])
        twin = manager.twin()
        self.assertIsInstance(twin, Manager)
        self.assertIsNot(twin, manager)
        self.assertTrue(same(shown(twin), shown(manager)))
        before = copy.deepcopy(shown(manager))
        twin.enter("c")
        twin.do("a", ("hear", 0, "commit"))
        twin.fall(0, 1)
        twin.go_home()
        self.assertTrue(same(shown(manager), before))
        self.assertEqual((manager.protocol, twin.protocol), (USUAL, USUAL))
        before = copy.deepcopy(shown(twin))
        manager.do("b", ("yes", 1))
        manager.fall(2, 2)
        manager.enter("c")
        self.assertTrue(same(shown(twin), before))
        # And so do twins of twins.
        third = twin.twin()
        third.fall(1, len(third.log_of(1)[0]))
        self.assertNotEqual(shown(third), before)
        self.assertTrue(same(shown(twin), before))

    def test_of_an_empty_one(self):
        manager = Manager(WEAK)
        twin = manager.twin()
        twin.enter("a")
        self.assertEqual((manager.names, twin.names), ((), ("a",)))


class ReturnedTest(ManagerCase):

    def test_nothing_that_was_returned_changes(self):
        choice = random.Random(403)
        for protocol in some_protocols(15, 404):
            manager, told = Manager(protocol), []
            for name in ("a", "b"):
                manager.enter(name)
            for _ in range(40):
                told.append((shown(manager), repr(shown(manager))))
                wild_step(manager, choice)
            for values, printed in told:
                self.assertEqual(repr(values), printed)

    def test_kinds_of_values(self):
        manager = manager_of(USUAL, a=ENDS)
        for value in (manager.names, manager.deeds_of("a"), manager.log_of(0), manager.split_names(), manager.standing_of("a")):
            self.assertIsInstance(value, tuple)
        self.assertIsInstance(manager.log_of(0)[0], tuple)
        self.assertIsInstance(manager.log_of(0)[0][0], tuple)
        self.assertIs(type(manager.go_home()), int)


def wild_step(manager, choice):
    """Something that may be refused, or not; what it was, and its outcome."""
    name = choice.choice(manager.names + ("new", "New", None)) if manager.names else "new"
    known = isinstance(name, str) and name in manager.names
    kind = choice.random()
    if kind < 0.08:
        new = "n" + str(choice.randint(0, 9))
        return ("enter", new), outcome(manager.enter, new)
    if kind < 0.2:
        site, kept = choice.randint(-1, len(manager.protocol[1]) + 1), choice.randint(0, 6)
        return ("fall", site, kept), outcome(manager.fall, site, kept)
    deeds = open_deeds(manager.protocol, manager.standing_of(name)) if known else ()
    deed = chosen(choice, deeds) if deeds and choice.random() < 0.9 else choice.choice((None, ("begin",), ("quit",)))
    return ("do", name, deed), outcome(manager.do, name, deed)


class SecondReckoningTest(ManagerCase):

    def step(self, manager, plain, choice):
        """Does something that can be done to both of them; its kind."""
        kind = choice.random()
        name = choice.choice(manager.names) if manager.names else None
        if name is None or (kind < 0.12 and len(manager.names) < 6):
            name = choice.choice("abcdefghij") + str(len(manager.names))
            manager.enter(name)
            plain.enter(name)
            return "enter"
        if kind < 0.3:
            site = choice.randrange(len(manager.protocol[1]) + 1)
            rows, sure = manager.log_of(site)
            kept = choice.randint(sure, len(rows))
            manager.fall(site, kept)
            plain.fall(site, kept)
            return "fall"
        if kind < 0.31:
            self.assertEqual(manager.go_home(), plain.go_home())
            return "home"
        deeds = [deed for deed in open_deeds(manager.protocol, manager.standing_of(name)) if deed[0] not in ("stop", "fall")]
        if deeds:
            deed = chosen(choice, deeds)
            manager.do(name, deed)
            plain.do(name, deed)
        return "do"

    def test_drawn_runs(self):
        choice = random.Random(405)
        met = {}
        for protocol in some_protocols(110, 406, 4) + safe_protocols(40, 407, 1, 4):
            manager, plain = Manager(protocol), PlainManager(protocol)
            for _ in range(60):
                kind = self.step(manager, plain, choice)
                met[kind] = met.get(kind, 0) + 1
                self.assertTrue(same(shown(manager), plain.shown()), protocol)
        self.assertGreater(min(met.values()), 30)

    def test_twins_by_turns(self):
        choice = random.Random(408)
        for protocol in some_protocols(30, 409, 3):
            pairs = [(Manager(protocol), PlainManager(protocol))]
            for _ in range(50):
                manager, plain = choice.choice(pairs)
                if choice.random() < 0.06 and len(pairs) < 4:
                    pairs.append((manager.twin(), copy.deepcopy(plain)))
                self.step(manager, plain, choice)
                for each, other in pairs:
                    self.assertTrue(same(shown(each), other.shown()))

    def test_what_raises_changes_nothing(self):
        choice = random.Random(410)
        met = {"raised": 0, "returned": 0}
        for protocol in some_protocols(40, 411, 3):
            manager = Manager(protocol)
            for _ in range(60):
                before = repr(shown(manager))
                call, told = wild_step(manager, choice)
                met[told[0]] += 1
                if told[0] == "raised":
                    self.assertEqual(repr(shown(manager)), before, call)
        self.assertGreater(min(met.values()), 300)

    def test_equal_calls_behind_the_same_calls(self):
        for seed in range(412, 420):
            for protocol in some_protocols(3, seed, 3):
                told = []
                for _ in range(2):
                    choice, manager = random.Random(seed), Manager(protocol)
                    Manager(USUAL).enter("a")
                    told.append([(wild_step(manager, choice), shown(manager)) for _ in range(40)])
                self.assertTrue(same(*told))


class HoldsTest(ManagerCase):
    """[K4]"""

    def without_sures(self, standing):
        (phase, log, sure, heard), participants, letters, told = standing
        return ((phase, log, heard), tuple(site[:2] for site in participants), letters, told)

    def sures(self, standing):
        return [standing[0][2]] + [site[2] for site in standing[1]]

    def check(self, manager):
        protocol = manager.protocol
        for name in manager.names:
            standing, deeds = manager.standing_of(name), manager.deeds_of(name)
            self.assertIsNone(standing_error(protocol, standing))
            if len(deeds) <= 400:
                own = led(protocol, deeds)
                self.assertEqual(self.without_sures(standing), self.without_sures(own))
                for more, less in zip(self.sures(standing), self.sures(own)):
                    self.assertGreaterEqual(more, less)
            for site in range(len(protocol[1]) + 1):
                rows, sure = manager.log_of(site)
                log = standing[0][1:3] if site == 0 else standing[1][site - 1][1:]
                self.assertEqual(tuple(row for owner, row in rows if owner == name), log[0])
                self.assertEqual(sum(owner == name for owner, row in rows[:sure]), log[1])
        self.assertEqual(manager.split_names(), tuple(sorted(
            name for name in manager.names if is_split(manager.standing_of(name)))))

    def test_each_its_own_run(self):
        choice = random.Random(420)
        greater = 0
        for protocol in some_protocols(180, 421, 4) + safe_protocols(60, 422, 1, 4):
            manager, plain = Manager(protocol), PlainManager(protocol)
            stepper = SecondReckoningTest()
            for _ in range(70):
                before = [manager.log_of(site) for site in range(len(protocol[1]) + 1)]
                stepper.step(manager, plain, choice)
                # A row that is sure stays.
                for site, (rows, sure) in enumerate(before):
                    self.assertEqual(manager.log_of(site)[0][:sure], rows[:sure])
                    self.assertGreaterEqual(manager.log_of(site)[1], sure)
            self.check(manager)
            greater += any(self.sures(manager.standing_of(name)) != self.sures(led(protocol, manager.deeds_of(name)))
                           for name in manager.names if len(manager.deeds_of(name)) <= 400)
            if is_safe(protocol):
                self.assertEqual(manager.split_names(), ())
            self.go_home(manager)
            self.check(manager)
        self.assertGreater(greater, 20)

    def go_home(self, manager):
        """Each goes home in as many deeds at most as [C5] tells."""
        protocol = manager.protocol
        before = {name: len(manager.deeds_of(name)) for name in manager.names}
        size = len(protocol[1])
        most = 2 + 2 * size if is_safe(protocol) or size <= 2 else 3 * size
        many = manager.go_home()
        self.assertEqual(many, sum(len(manager.deeds_of(name)) - before[name] for name in manager.names))
        for name in manager.names:
            self.assertLessEqual(len(manager.deeds_of(name)) - before[name], most)
            self.assertTrue(is_home(protocol, manager.standing_of(name)))
        self.assertEqual(manager.go_home(), 0)

    def test_safe_ones_of_many_transactions(self):
        choice = random.Random(423)
        for protocol in safe_protocols(25, 424, 2, 3):
            manager, plain = Manager(protocol), PlainManager(protocol)
            for name in "abcdefghijkl":
                manager.enter(name)
                plain.enter(name)
            stepper = SecondReckoningTest()
            for _ in range(150):
                stepper.step(manager, plain, choice)
            self.assertEqual(manager.split_names(), ())
            self.assertTrue(same(shown(manager), plain.shown()))

    def test_many_deeds(self):
        # More than a run may have: nothing is refused for that.
        manager = manager_of(USUAL, a=VOTES)
        for _ in range(450):
            manager.fall(0, 1)
        self.assertEqual(len(manager.deeds_of("a")), 455)
        self.assertEqual(manager.standing_of("a")[0], ("committing", ("committed",), 1, ()))
        self.assertEqual(manager.go_home(), 4)

    def test_full_logs(self):
        both = ("forced", "forced", "forced", ("abort", "commit"), "commit", False)
        manager = Manager((("forced",) * 3, (both, DONE, WORK)))
        for k in range(40):
            manager.enter("n" + str(k))
            for deed in (("begin",),) + tuple((word, i) for word in ("yes", "count") for i in range(3)):
                manager.do("n" + str(k), deed)
        manager.go_home()
        self.assertEqual([len(manager.log_of(site)[0]) for site in range(4)], [120, 80, 40, 40])
        self.check(manager)


if __name__ == "__main__":
    unittest.main()
