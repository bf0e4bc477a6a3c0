"""[E3]: what is wrong with what is no losing run."""

import random
import unittest

from doubtbooks.fitting import is_safe
from doubtbooks.moving import after, deed_error, led, open_deeds
from doubtbooks.splitjudge import splitting_error
from doubtbooks.splitting import splitting
from doubtbooks.standings import start
from tests.helping import (
    DONE, THIN, UNDONE, USUAL, VOTES, Unchanged, any_values, called, changed_parts, safe_protocols, same, some_protocols,
    walk)

LOOSE = ("forced", "lazy", "none", ("commit",), "abort", False)
BOTH = (THIN, (LOOSE, UNDONE))
BARE = (("none",) * 3, (("none", "none", "none", (), "abort", False),))


def by_hand(protocol, value):
    """[E3] once more."""
    if not isinstance(value, tuple):
        return "form"
    standing = start(protocol)
    for k, deed in enumerate(value):
        if deed_error(protocol, standing, deed) is not None:
            return ("deed", k)
        standing = after(protocol, standing, deed)
    if standing[3] != ("abort", "commit"):
        return "whole"
    return None if len(value) <= 4 * len(protocol[1]) + 4 else "long"


def longer(protocol, run, many):
    """The run with so many deeds behind it."""
    standing = led(protocol, run)
    choice = random.Random(90)
    while len(run) < many:
        run += (choice.choice(open_deeds(protocol, standing)),)
        standing = led(protocol, run)
    return run


class SplittingErrorTest(unittest.TestCase):

    def check(self, protocol, value, wanted):
        self.assertTrue(same(splitting_error(protocol, value), wanted), (protocol, value))

    def losing(self, seed=91, many=60):
        """Pairs of a protocol that is not safe, and a losing run of it."""
        return [(each, splitting(each)) for each in some_protocols(many, seed) if not is_safe(each)]

    def test_form(self):
        for value in any_values():
            if not isinstance(value, tuple):
                self.check(BOTH, value, "form")
        self.check(BOTH, list(splitting(BOTH)), "form")
        self.check(BOTH, [], "form")
        self.check(BOTH, {deed: True for deed in splitting(BOTH)}, "form")
        self.check(BOTH, "begin", "form")

    def test_any_value(self):
        for protocol in (BOTH, USUAL, BARE):
            for value in any_values():
                with Unchanged(self, protocol, value):
                    wanted = "form" if not isinstance(value, tuple) else "whole" if value == () else ("deed", 0)
                    if value == (("begin",),):
                        wanted = "whole"
                    self.check(protocol, value, wanted)

    def test_what_the_package_returned(self):
        for value in (BOTH, start(BOTH), led(BOTH, splitting(BOTH)), UNDONE, THIN, open_deeds(BOTH, start(BOTH))):
            self.check(BOTH, value, ("deed", 0) if value != open_deeds(BOTH, start(BOTH)) else "whole")

    def test_losing_runs(self):
        for protocol, run in self.losing():
            self.check(protocol, run, None)

    def test_deeds_short(self):
        for protocol, run in self.losing():
            for many in range(len(run)):
                self.check(protocol, run[:many], by_hand(protocol, run[:many]))
            self.check(protocol, (), "whole")
            standing = led(protocol, run[:-1])
            self.check(protocol, run[:-1], None if len(standing[3]) == 2 else "whole")

    def test_just_long_enough(self):
        for protocol, run in self.losing():
            most = 4 * len(protocol[1]) + 4
            self.check(protocol, longer(protocol, run, most), None)
            for more in (1, 2, 20):
                self.check(protocol, longer(protocol, run, most + more), "long")

    def test_many_deeds(self):
        # More than led would do: the bound of a run is none of what is asked here.
        protocol = (("none", "none", "none"), (UNDONE,))
        run = splitting(protocol)
        self.check(protocol, run + (("stop", 0),) * (4000 - len(run)), "long")
        self.check(protocol, (("begin",),) + (("stop", 0),) * 3999, "whole")
        self.check(protocol, (("begin",),) + (("stop", 0),) * 3998 + (None,), ("deed", 3999))

    def test_a_deed_exchanged(self):
        values = any_values() + [("begin",), ("yes", True), ("yes", 6), ["begin"], ("hear", 0, "none"), ("stop", 4)]
        for protocol, run in [(BOTH, splitting(BOTH))] + self.losing(92, 4):
            for k in range(len(run)):
                for value in values:
                    other = run[:k] + (value,) + run[k + 1:]
                    self.check(protocol, other, by_hand(protocol, other))

    def test_bools_are_no_numbers(self):
        run = splitting(BOTH)
        for k, deed in enumerate(run):
            for place, item in enumerate(deed):
                if item in (0, 1):
                    other = run[:k] + (deed[:place] + (bool(item),) + deed[place + 1:],) + run[k + 1:]
                    self.check(BOTH, other, ("deed", k))

    def test_changed_parts(self):
        for protocol in (BARE, (THIN, (LOOSE,)), (THIN, (DONE,))):
            run = splitting(protocol)
            for value in changed_parts(run, (None, True, 0, 1, "begin", "commit", ("quit",), [])):
                self.check(protocol, value, by_hand(protocol, value))

    def test_in_the_order_told(self):
        run = splitting(BOTH)
        late = longer(BOTH, run, 13)
        self.check(BOTH, list(late) + [None], "form")
        self.check(BOTH, late + (None,), ("deed", 13))
        self.check(BOTH, (None,) + late, ("deed", 0))
        self.check(BOTH, (None, None) + run, ("deed", 0))
        whole = VOTES + (("stop", 1),) * 20
        self.check(USUAL, whole, "whole")
        self.check(USUAL, whole + (("stop", 0),), ("deed", 25))

    def test_along_runs(self):
        choice = random.Random(93)
        split = 0
        for protocol in some_protocols(200, 94, 3):
            run = tuple(deed for standing, deed, behind in walk(protocol, choice, 30))
            for many in range(0, len(run) + 1, 3):
                wanted = by_hand(protocol, run[:many])
                split += wanted in (None, "long")
                self.check(protocol, run[:many], wanted)
        self.assertGreater(split, 100)

    def test_safe_ones(self):
        """[E4]: with every value something is wrong."""
        choice = random.Random(95)
        others = [run for protocol, run in self.losing(96, 30)]
        for protocol in safe_protocols(40, 97, 1):
            for value in any_values() + others:
                wanted = splitting_error(protocol, value)
                self.assertIsNotNone(wanted)
                self.check(protocol, value, by_hand(protocol, value))
            run = tuple(deed for standing, deed, behind in walk(protocol, choice, 40))
            self.check(protocol, run, "whole")

    def test_by_name_and_again(self):
        for protocol, run in self.losing(98, 20):
            for value in (run, run[:-1], run + run, list(run), None, ()):
                called(self, splitting_error, lambda: splitting_error(BOTH, splitting(BOTH)),
                       protocol=protocol, value=value)


if __name__ == "__main__":
    unittest.main()
