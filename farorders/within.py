"""How many orders lie within a distance of one order, and which."""

from farorders.checks import check_from, check_size, check_way
from farorders.orders import MOST_THINGS, all_orders, check_listed, check_order, known_far


def count_within(way, n, r):
    """How many orders of n things lie within r of one order."""
    check_count(way, n, r)
    return known_within(way, n, r)


def count_at(way, n, r):
    """How many orders of n things lie just r far from one order."""
    check_count(way, n, r)
    if r == 0:
        return known_within(way, n, 0)
    return known_within(way, n, r) - known_within(way, n, r - 1)


def check_count(way, n, r):
    """Refuse what is no way, no number of things or no distance."""
    check_way(way)
    check_size(n, MOST_THINGS)
    check_from(r, 0)


def known_within(way, n, r):
    """How many orders lie within r, where all that is asked is known to fit."""
    if way == "swap":
        return sum(swap_counts(n)[:r + 1])
    if way == "spot":
        return sum(spot_counts(n)[:r + 1])
    return shift_within(n, r)


def swap_counts(n):
    """A list that has at r how many orders of n things are just r far by swap."""
    counts = [1]
    for behind in range(1, n):
        counts = swap_counts_with_one_more(counts, behind)
    return counts


def swap_counts_with_one_more(counts, behind):
    """The counts with one thing more, which may turn round with so many others."""
    more = [0] * (len(counts) + behind)
    for far, many in enumerate(counts):
        for passed in range(behind + 1):
            more[far + passed] += many
    return more


def spot_counts(n):
    """A list that has at r how many orders of n things are just r far by spot."""
    counts = []
    choices = 1
    for r in range(n + 1):
        counts.append(choices * count_all_moved(r))
        choices = choices * (n - r) // (r + 1)
    return counts


def count_all_moved(n):
    """How many orders of n things leave no thing at its place."""
    many = 1
    sign = 1
    for things in range(1, n + 1):
        sign = -sign
        many = many * things + sign
    return many


def shift_within(n, r):
    """How many orders of n things leave each thing within r of its place."""
    # Beginnings with the same things are counted together, a bit for each thing:
    # how they can go on hangs on these things alone.
    beginnings = {0: 1}
    for place in range(n):
        near = things_near(place, n, r)
        beginnings = one_place_further(beginnings, near)
    return sum(beginnings.values())


def things_near(place, n, r):
    """The list of the things of n that are within r of a place."""
    return list(range(max(0, place - r), min(n, place + r + 1)))


def one_place_further(beginnings, near):
    """The beginnings that are longer by one of the near things."""
    longer = {}
    for used, many in beginnings.items():
        for thing in near:
            bit = 1 << thing
            if (used & bit) == 0:
                longer[used | bit] = longer.get(used | bit, 0) + many
    return longer


def all_within(way, order, r):
    """All orders within r of an order of at most six things, sorted."""
    check_order(order)
    check_way(way)
    check_listed(order)
    check_from(r, 0)
    return [other for other in all_orders(len(order)) if known_far(way, order, other) <= r]
