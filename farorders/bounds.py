"""Bounds of how long a list that lies apart can be."""

from farorders.apart import MOST_PARTED, first_parting
from farorders.checks import check_apart, check_size
from farorders.orders import MOST_LISTED, MOST_THINGS, count_orders
from farorders.within import known_within


def bounds_by_rounds(way, n, d):
    """How long the first list is at least, and any that lies d apart at most."""
    check_apart(way, n, MOST_THINGS, d)
    orders = count_orders(n)
    # About two that lie d apart the rounds of this half have no order in common.
    most = orders // known_within(way, n, (d - 1) // 2)
    # The rounds of d less 1 about those of the first list have all orders, else it had one more.
    wide = known_within(way, n, d - 1)
    least = (orders + wide - 1) // wide
    return (least, most)


def most_by_places(n, d):
    """How long a list that lies d apart by spot is at most: the numbers from d to n multiplied."""
    check_size(n, MOST_THINGS)
    check_size(d, n)
    return count_orders(n) // count_orders(d - 1)


def best_bound(way, n, d):
    """The least of the bounds that there are, and the words of those that have it."""
    check_apart(way, n, MOST_LISTED, d)
    bounds = {"rounds": bounds_by_rounds(way, n, d)[1]}
    if way == "spot" and d <= n:
        bounds["places"] = most_by_places(n, d)
    if n <= MOST_PARTED:
        bounds["parting"] = len(first_parting(way, n, d))
    most = min(bounds.values())
    return (most, [word for word, bound in bounds.items() if bound == most])
