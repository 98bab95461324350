"""Polls of orders, the order that lies best among them, and what their pairs tell."""

from farorders.checks import check_few, check_way
from farorders.errors import NoOrder
from farorders.orders import MOST_LISTED, all_orders, check_fit, check_order, is_order_list, known_far, places_in

MOST_POLLED = 20
# Of so many things sets are gone through in the place of orders.
MOST_BY_PAIRS = 9


def check_poll(thing):
    """Refuse what is no list of one to twenty orders of as many things."""
    if not is_order_list(thing) or len(thing) == 0 or len(thing) > MOST_POLLED:
        raise NoOrder("not a list of one to twenty orders of as many things")


def poll_sum(way, poll, order):
    """The sum of how far an order is from each of a poll."""
    check_poll(poll)
    check_order(order)
    check_way(way)
    check_fit(order, poll[0])
    return known_sum(way, poll, order)


def known_sum(way, poll, order):
    """The sum of how far an order is from each, where all that is asked is known to fit."""
    return sum([known_far(way, order, other) for other in poll])


def middle_of(way, poll):
    """The least sum of any order, and the first order that has it."""
    check_poll(poll)
    check_way(way)
    n = len(poll[0])
    if way == "swap":
        check_few(n, MOST_BY_PAIRS)
        return middle_by_pairs(counts_ahead(poll))
    check_few(n, MOST_LISTED)
    return middle_by_all(way, poll, n)


def middle_by_all(way, poll, n):
    """The least sum, by going through all orders of n things."""
    least, best = None, None
    for order in all_orders(n):
        far = known_sum(way, poll, order)
        if least is None or far < least:
            least, best = far, order
    return (least, best)


def middle_by_pairs(ahead):
    """The least sum by swap, from how often each thing stands ahead of each other."""
    sums = least_sums(ahead)
    left = len(sums) - 1
    order = []
    while left > 0:
        thing = best_first(left, ahead, sums)
        order.append(thing)
        left -= 1 << thing
    return (sums[-1], order)


def best_first(left, ahead, sums):
    """The least thing that can stand first of a set in an order with its least sum."""
    return min([thing for thing in things_in(left, ahead) if sum_with_first(thing, left, ahead, sums) == sums[left]])


def least_sums(ahead):
    """For each set of things, a bit for each, the least sum of its own pairs in any order."""
    sums = [0]
    for left in range(1, 1 << len(ahead)):
        sums.append(min([sum_with_first(thing, left, ahead, sums) for thing in things_in(left, ahead)]))
    return sums


def sum_with_first(thing, left, ahead, sums):
    """The least sum of the pairs of a set of which this thing stands first."""
    # Each order of the poll that has another one ahead of it is farther by that pair.
    turned = sum([ahead[other][thing] for other in things_in(left, ahead)])
    return turned + sums[left - (1 << thing)]


def things_in(left, ahead):
    """The list of the things of a set."""
    return [thing for thing in range(len(ahead)) if (left & (1 << thing)) != 0]


def counts_ahead(poll):
    """At i, at j how many orders of a poll have thing i ahead of thing j."""
    things = list(range(len(poll[0])))
    places = [places_in(order) for order in poll]
    return [[len([seats for seats in places if seats[i] < seats[j]]) for j in things] for i in things]


def pairs_ahead(poll):
    """For each two things i below j how many orders of a poll have i ahead of j."""
    check_poll(poll)
    ahead = counts_ahead(poll)
    return {(i, j): ahead[i][j] for i in range(len(ahead)) for j in range(i + 1, len(ahead))}


def pair_sum(poll):
    """The sum, over all pairs, of how many orders have the pair in its rarer way round."""
    check_poll(poll)
    ahead = counts_ahead(poll)
    return sum([min(ahead[i][j], ahead[j][i]) for j in range(len(ahead)) for i in range(j)])


def ring_of(poll):
    """The first ring of the fewest things, each ahead of the next in more than half of a poll, or None."""
    check_poll(poll)
    n = len(poll[0])
    check_few(n, MOST_BY_PAIRS)
    followers = mostly_behind(poll)
    best = None
    for least in range(n):
        ring = ring_from(least, followers)
        if ring is not None and (best is None or len(ring) < len(best)):
            best = ring
    return best


def mostly_behind(poll):
    """At i the list of the things that have i ahead of them in more than half of a poll."""
    return [
        [other for other, many in enumerate(counts) if 2 * many > len(poll)]
        for counts in counts_ahead(poll)
    ]


def ring_from(least, followers):
    """The first ring of the fewest things of which this one is the least, or None."""
    reached = {thing: True for thing in range(least + 1)}
    paths = [[least]]
    while len(paths) > 0:
        for path in paths:
            if least in followers[path[-1]]:
                return path
        paths = longer_paths(paths, followers, reached)
    return None


def longer_paths(paths, followers, reached):
    """The paths that are longer by one thing that was not reached, and is now."""
    # Paths come in order as lists are: so each thing is reached by the first of the shortest.
    longer = []
    for path in paths:
        for thing in followers[path[-1]]:
            if thing not in reached:
                reached[thing] = True
                longer.append(path + [thing])
    return longer
