"""[I4], [I5]: what protocols cost, the cheapest ways, and how many commits pay."""

import itertools
import random
import unittest

from doubtbooks.costs import counts, plain_run
from doubtbooks.fitting import is_safe
from doubtbooks.knownways import abort_with_work, all_forced, commit_with_work, presumed_abort, presumed_commit
from doubtbooks.prices import cheapest, commits_for, price
from doubtbooks.protocols import alike_for
from doubtbooks.strengthening import least_ways
from tests.helping import (
    FIT, HEADS, MANNERS, THIN, UNDONE, USUAL, Unchanged, any_values, called, changed_parts, safe_protocols, same,
    some_protocols)

MILLION = 10 ** 6
NO_NUMBERS = [value for value in any_values() if isinstance(value, bool) or not isinstance(value, int)]
NO_NUMBERS += [-1, MILLION + 1, 10 ** 400 - 1, "0", (0,), [0]]
NO_PRICES = [value for value in any_values() if not (isinstance(value, tuple) and len(value) == 4)]
NO_PRICES += [[10, 1, 1, 4], (10, 1, 1), (10, 1, 1, 4, 4), ((10, 1, 1, 4),), {0: 1, 1: 1, 2: 1, 3: 1}, ()]
PLAIN = (10, 1, 1, 4)


def some_prices(many, seed):
    """Quadruples of prices of all sizes, the same ones for the same seed."""
    choice = random.Random(seed)
    prices = list(itertools.product((0, 1, MILLION), repeat=4))
    for _ in range(many):
        most = choice.choice((1, 3, 20, 1000, MILLION))
        prices.append(tuple(choice.randint(0, most) for _ in range(4)))
    return prices


def prices_by_formula(n, prices):
    """[I5]: pairs of what a plain commit costs, and a plain abort, by each of the four ways."""
    f, l, t, w = prices
    return {
        "presumed_abort": ((1 + 2 * n) * f + l + 4 * n * t, n * f + 3 * n * t),
        "abort_with_work": ((1 + n) * f + l + 4 * n * t + n * w, 3 * n * t + n * w),
        "presumed_commit": ((2 + n) * f + l + 3 * n * t, (1 + 2 * n) * f + l + 4 * n * t),
        "commit_with_work": ((2 + n) * f + l + 4 * n * t + n * w, f + l + 4 * n * t + n * w)}


def price_by_hand(protocol, prices, commits, aborts):
    """Each of the counts at its price, each run as often as it is done."""
    worth = 0
    for end, many in (("commit", commits), ("abort", aborts)):
        forced, lazy, theirs, loose, letters, works = counts(protocol, plain_run(protocol, end, ()))
        for number, each in ((forced, 0), (theirs, 0), (lazy, 1), (loose, 1), (letters, 2), (works, 3)):
            worth += many * number * prices[each]
    return worth


def pays(n, prices, commits, aborts):
    """Whether presumed_commit costs less than both ways with abort presumed."""
    each = {name: commits * commit + aborts * abort for name, (commit, abort) in prices_by_formula(n, prices).items()}
    return each["presumed_commit"] < min(each["presumed_abort"], each["abort_with_work"])


class PricesCase(unittest.TestCase):

    def unfit(self, function, **arguments):
        told = called(self, function, lambda: price(USUAL, PLAIN, 1, 1), **arguments)
        self.assertEqual(told, ("raised", "Unfit", {}), arguments)

    def unfit_each(self, function, numbers, **right):
        """Each argument that may be any value is exchanged for what is no right one."""
        for value in NO_PRICES:
            self.unfit(function, **{**right, "prices": value})
        for value in changed_parts(PLAIN, (None, True, False, -1, MILLION + 1, "1", (), [1], 10 ** 400)):
            self.unfit(function, **{**right, "prices": value})
        for name, least, most in numbers:
            for value in NO_NUMBERS + [least - 1, most + 1]:
                with Unchanged(self, value):
                    self.unfit(function, **{**right, name: value})
            for value in (least, most):
                self.assertEqual(called(self, function, lambda: price(USUAL, PLAIN, 1, 1), **{**right, name: value})[0],
                                 "returned")


class PriceTest(PricesCase):

    def test_one_price_at_a_time(self):
        for protocol in some_protocols(40, 220):
            for end, commits, aborts in (("commit", 1, 0), ("abort", 0, 1)):
                forced, lazy, theirs, loose, letters, works = counts(protocol, plain_run(protocol, end, ()))
                self.assertEqual(price(protocol, (1, 0, 0, 0), commits, aborts), forced + theirs)
                self.assertEqual(price(protocol, (0, 1, 0, 0), commits, aborts), lazy + loose)
                self.assertEqual(price(protocol, (0, 0, 1, 0), commits, aborts), letters)
                self.assertEqual(price(protocol, (0, 0, 0, 1), commits, aborts), works)

    def test_drawn_ones(self):
        choice = random.Random(221)
        for protocol in some_protocols(150, 222):
            for prices in choice.sample(some_prices(40, 223), 4):
                commits, aborts = choice.choice(((0, 0), (1, 0), (0, 1), (7, 3), (MILLION, MILLION)))
                told = price(protocol, prices, commits, aborts)
                self.assertTrue(same(told, price_by_hand(protocol, prices, commits, aborts)))

    def test_the_four_ways(self):
        """[I5]: what their commits and aborts cost."""
        known = {way.__name__: way() for way in (presumed_abort, abort_with_work, presumed_commit, commit_with_work)}
        for n in range(1, 7):
            for prices in some_prices(30, 224):
                for name, pair in prices_by_formula(n, prices).items():
                    protocol = alike_for(*known[name], n)
                    self.assertEqual((price(protocol, prices, 1, 0), price(protocol, prices, 0, 1)), pair, name)
                    self.assertEqual(price(protocol, prices, 3, 5), 3 * pair[0] + 5 * pair[1])

    def test_great_ones(self):
        protocol = alike_for(*all_forced("abort"), 6)
        worth = price(protocol, (MILLION,) * 4, MILLION, MILLION)
        self.assertEqual(worth, 2 * MILLION * MILLION * (2 + 12 + 1 + 24))
        self.assertEqual(price(protocol, (0,) * 4, MILLION, MILLION), 0)
        self.assertEqual(price(protocol, (MILLION,) * 4, 0, 0), 0)

    def test_unfit(self):
        self.unfit_each(price, (("commits", 0, MILLION), ("aborts", 0, MILLION)),
                        protocol=USUAL, prices=PLAIN, commits=1, aborts=1)
        self.unfit(price, protocol=USUAL, prices=None, commits=None, aborts=None)

    def test_calls(self):
        choice = random.Random(225)
        for protocol in some_protocols(40, 226):
            for prices in choice.sample(some_prices(20, 227), 3):
                called(self, price, lambda: price(USUAL, PLAIN, 2, 1),
                       protocol=protocol, prices=prices, commits=choice.randint(0, 9), aborts=choice.randint(0, 9))


class CheapestTest(PricesCase):

    def check(self, prices, many, commits, aborts):
        told = cheapest(prices, many, commits, aborts)
        each = [(way, price_by_hand(alike_for(*way, many), prices, commits, aborts)) for way in least_ways()]
        self.assertIsInstance(told, tuple)
        self.assertIn(repr(told), [repr(pair) for pair in each])
        self.assertEqual(told[1], min(worth for way, worth in each))
        return told

    def test_drawn_ones(self):
        choice = random.Random(230)
        met = set()
        for prices in some_prices(250, 231):
            commits, aborts = choice.choice(((0, 0), (1, 0), (0, 1), (1, 1), (9, 1), (1000, 1), (MILLION, MILLION)))
            met.add(self.check(prices, choice.randint(2, 6), commits, aborts)[0])
        self.assertGreaterEqual(len(met), 3)

    def test_each_of_three_is_the_cheapest_once(self):
        self.assertEqual(self.check((10, 1, 1, 20), 3, 0, 1)[0], presumed_abort())
        self.assertEqual(self.check((10, 1, 1, 4), 3, 1, 1)[0], abort_with_work())
        self.assertEqual(self.check((10, 1, 1, 20), 3, 50, 1)[0], presumed_commit())

    def test_no_way_that_fits_costs_less(self):
        """[I5]: of all ways that fit, alike for all."""
        choice = random.Random(232)
        ways = [(head, own) for head in HEADS for own in FIT[head]]
        self.assertGreater(len(ways), 100)
        for prices in choice.sample(some_prices(60, 233), 25):
            many = choice.randint(2, 6)
            pairs = ((1, 0), (0, 1), (1, 1), (5, 2), (2, 9))
            least = {pair: cheapest(prices, many, *pair)[1] for pair in pairs}
            for way in choice.sample(ways, 60):
                protocol = alike_for(*way, many)
                commit, abort = [price_by_hand(protocol, prices, *pair) for pair in pairs[:2]]
                for commits, aborts in pairs:
                    self.assertLessEqual(least[commits, aborts], commits * commit + aborts * abort)

    def test_all_ways_of_two(self):
        for prices in ((10, 1, 1, 4), (10, 1, 1, 20), (1, 0, 0, 0), (0, 0, 1, 0), (0, 0, 0, 1), (5, 5, 5, 5)):
            for head in HEADS:
                for own in FIT[head]:
                    protocol = (head, (own, own))
                    commit, abort = [price(protocol, prices, *pair) for pair in ((1, 0), (0, 1))]
                    for commits, aborts in ((1, 0), (0, 1), (3, 1)):
                        self.assertLessEqual(cheapest(prices, 2, commits, aborts)[1], commits * commit + aborts * abort)

    def test_no_mixture_that_is_safe_costs_less(self):
        """[I5]: of protocols that are safe, alike or not."""
        choice = random.Random(234)
        for protocol in safe_protocols(300, 235):
            self.assertTrue(is_safe(protocol))
            prices = choice.choice(some_prices(30, 236))
            for commits, aborts in ((1, 0), (0, 1), (1, 1), (6, 1), (MILLION, 1)):
                least = self.check(prices, len(protocol[1]), commits, aborts)[1]
                self.assertLessEqual(least, price(protocol, prices, commits, aborts))

    def test_what_settles_it(self):
        """[I5]: work and row alone settle whether work is sent; the fourth way is never the only cheapest one."""
        choice = random.Random(237)
        for prices in some_prices(150, 238):
            n, commits, aborts = choice.randint(2, 6), choice.randint(0, 4), choice.randint(0, 4)
            undone, work, done, full = [price(alike_for(*way(), n), prices, commits, aborts) for way in (
                presumed_abort, abort_with_work, presumed_commit, commit_with_work)]
            self.assertEqual(work <= undone, prices[3] <= prices[0] or commits + aborts == 0)
            self.assertLessEqual(work, full)
            least = min(prices[0], prices[3])
            gain = commits * (n * prices[2] + n * least - prices[0])
            loss = aborts * ((1 + 2 * n) * prices[0] + prices[1] + n * prices[2] - n * least)
            self.assertEqual(done < min(undone, work), gain > loss)

    def test_unfit(self):
        self.unfit_each(cheapest, (("many", 2, 6), ("commits", 0, MILLION), ("aborts", 0, MILLION)),
                        prices=PLAIN, many=2, commits=1, aborts=1)
        self.unfit(cheapest, prices=None, many=None, commits=None, aborts=None)
        self.unfit(cheapest, prices=PLAIN, many=1, commits=1, aborts=1)

    def test_calls(self):
        choice = random.Random(239)
        for prices in some_prices(30, 240):
            called(self, cheapest, lambda: cheapest(PLAIN, 3, 1, 2),
                   prices=prices, many=choice.randint(2, 6), commits=choice.randint(0, 9), aborts=choice.randint(0, 9))


class CommitsForTest(PricesCase):

    def check(self, prices, n, aborts):
        told = commits_for(prices, n, aborts)
        if told is None:
            for commits in (0, 1, 2, 10, MILLION, 10 ** 30):
                self.assertFalse(pays(n, prices, commits, aborts), (prices, n, aborts, commits))
        else:
            self.assertTrue(same(told, int(told)))
            self.assertTrue(pays(n, prices, told, aborts), (prices, n, aborts, told))
            # Between nothing and what is told nothing else pays: few are gone through, of many the borders.
            fewer = range(told) if told < 200 else (0, 1, 2, told // 3, told // 2, told - 2, told - 1)
            for commits in fewer:
                self.assertFalse(pays(n, prices, commits, aborts), (prices, n, aborts, commits, told))
        return told

    def test_drawn_ones(self):
        choice = random.Random(241)
        met = {None: 0, False: 0, True: 0}
        for prices in some_prices(400, 242):
            for aborts in (0, 1, choice.randint(2, 40), MILLION):
                told = self.check(prices, choice.randint(2, 6), aborts)
                met[told if told is None else told > 1] += 1
        self.assertGreater(min(met.values()), 50)

    def test_small_ones_all(self):
        for prices in itertools.product((0, 1, 2, 5), (0, 1), (0, 1, 3), (0, 1, 4)):
            for n, aborts in itertools.product((2, 3, 6), (0, 1, 4)):
                told = commits_for(prices, n, aborts)
                first = [commits for commits in range(300) if pays(n, prices, commits, aborts)][:1]
                self.assertEqual([] if told is None or told >= 300 else [told], first, (prices, n, aborts))

    def test_that_pays_just_so(self):
        # Two commits cost as much there: only a third one pays.
        self.assertEqual(self.check((3, 0, 5, 3), 2, 0), 1)
        for prices, n in (((10, 1, 1, 20), 2), ((1, 0, 1, 1), 3), ((2, 0, 2, 9), 4)):
            for aborts in range(60):
                self.check(prices, n, aborts)

    def test_beyond_the_greatest_price(self):
        told = self.check((MILLION, MILLION, MILLION // 6 + 1, 0), 6, MILLION)
        self.assertGreater(told, MILLION)

    def test_never(self):
        for prices in ((100, 0, 1, 4), (0, 0, 0, 0), (0, 5, 0, 5), (5, 5, 0, 0), (MILLION, 0, 0, 0)):
            for aborts in (0, 1, MILLION):
                self.assertIsNone(self.check(prices, 2, aborts))

    def test_dear_works(self):
        # By aborts abort_with_work costs more, yet presumed_abort does not.
        for prices in ((1, 0, 1, MILLION), (1, 1, 0, MILLION), (MILLION, 0, 0, MILLION)):
            for n, aborts in itertools.product((2, 6), (0, 1, MILLION)):
                self.check(prices, n, aborts)

    def test_unfit(self):
        self.unfit_each(commits_for, (("many", 2, 6), ("aborts", 0, MILLION)), prices=PLAIN, many=2, aborts=1)
        self.unfit(commits_for, prices=None, many=None, aborts=None)

    def test_calls(self):
        choice = random.Random(243)
        for prices in some_prices(40, 244):
            called(self, commits_for, lambda: commits_for(PLAIN, 5, 2),
                   prices=prices, many=choice.randint(2, 6), aborts=choice.randint(0, 9))


class OneAloneTest(unittest.TestCase):

    def test_one_alone_may_cost_less(self):
        """[I5]: with one participant alone there may be safe protocols that cost less."""
        alone = (("none", "none", "forced"), (("forced", "none", "forced", ("abort",), "commit", False),))
        self.assertTrue(is_safe(alone))
        self.assertLess(price(alone, (10, 0, 0, 99), 1, 0), min(
            price(alike_for(*way, 1), (10, 0, 0, 99), 1, 0) for way in least_ways()))
        self.assertEqual(len(MANNERS), 432)
        self.assertEqual(price((THIN, (UNDONE,)), (1, 0, 0, 0), 1, 0), 3)


if __name__ == "__main__":
    unittest.main()
