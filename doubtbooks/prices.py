"""What protocols cost at given prices, and which known way is the cheapest."""

from doubtbooks.bounds import MAX_PARTICIPANTS, MAX_PRICE
from doubtbooks.costs import counts, plain_run
from doubtbooks.errors import Unfit
from doubtbooks.kinds import is_integer_within, is_tuple_of
from doubtbooks.knownways import abort_with_work, presumed_abort, presumed_commit
from doubtbooks.protocols import alike_for
from doubtbooks.strengthening import least_ways


def are_prices(value):
    """Whether value is a quadruple of prices."""
    return is_tuple_of(value, 4) and all(is_integer_within(item, 0, MAX_PRICE) for item in value)


def check_many(value):
    """Raises Unfit if value is no number of participants of which two or more are asked for."""
    if not is_integer_within(value, 2, MAX_PARTICIPANTS):
        raise Unfit()


def check_prices(prices, *numbers):
    """Raises Unfit if prices are none, or one of numbers is none of runs."""
    if not are_prices(prices):
        raise Unfit()
    for number in numbers:
        if not is_integer_within(number, 0, MAX_PRICE):
            raise Unfit()


def run_price(protocol, prices, end):
    """What the plain run to this end costs, without readers."""
    row, loose, letter, work = prices
    own, own_lazy, theirs, theirs_lazy, letters, works = counts(protocol, plain_run(protocol, end, ()))
    return (own + theirs) * row + (own_lazy + theirs_lazy) * loose + letters * letter + works * work


def price(protocol, prices, commits, aborts):
    """What so many plain commits and so many plain aborts cost together."""
    check_prices(prices, commits, aborts)
    return commits * run_price(protocol, prices, "commit") + aborts * run_price(protocol, prices, "abort")


def cheapest(prices, many, commits, aborts):
    """One of the least ways that cost least for so many participants, and what it costs."""
    check_many(many)
    pairs = []
    for head, manner in least_ways():
        pairs.append((price(alike_for(head, manner, many), prices, commits, aborts), (head, manner)))
    least, way = min(pairs)
    return (way, least)


def end_prices(way, prices, many):
    """What a commit costs by this way, and an abort."""
    protocol = alike_for(way[0], way[1], many)
    return (run_price(protocol, prices, "commit"), run_price(protocol, prices, "abort"))


def commits_for(prices, many, aborts):
    """The least number of commits with which presumed_commit pays at so many aborts; None if there is none."""
    check_prices(prices, aborts)
    check_many(many)
    commit, abort = end_prices(presumed_commit(), prices, many)
    most = 0
    for way in (presumed_abort(), abort_with_work()):
        other_commit, other_abort = end_prices(way, prices, many)
        gain = other_commit - commit
        # Where a commit gains nothing an abort loses, or costs as much: so no number of commits pays.
        if gain <= 0:
            return None
        most = max(most, aborts * (abort - other_abort) // gain + 1)
    return most
