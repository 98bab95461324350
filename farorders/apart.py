"""Lists of orders that lie apart, and partings that show how long they can be."""

from farorders.checks import check_apart
from farorders.orders import MOST_LISTED, MOST_THINGS, all_orders, is_order_list, known_far

MOST_SEARCHED = 4
MOST_PARTED = 5


def lies_apart(way, n, d, thing):
    """Whether anything is a list of unlike orders of n things, any two d far or farther."""
    check_apart(way, n, MOST_THINGS, d)
    if not is_order_list(thing) or not all([len(order) == n for order in thing]):
        return False
    # Two that are alike are not even 1 far: so those that lie apart are unlike.
    return are_far(way, d, thing)


def are_far(way, d, orders):
    """Whether any two of a list of orders are d far or farther."""
    for place, order in enumerate(orders):
        if not is_far(way, d, order, orders[:place]):
            return False
    return True


def is_far(way, d, order, others):
    """Whether an order is d far or farther from all others."""
    return all(known_far(way, order, other) >= d for other in others)


def longest_apart(way, n, d):
    """The longest list of orders of n things that lies d apart, of several any."""
    check_apart(way, n, MOST_SEARCHED, d)
    first, *others = all_orders(n)
    # Things can be called otherwise: so one of the longest lists has the first order.
    return longest_from(way, d, [first], far_ones(way, d, first, others), [])


def longest_from(way, d, taken, rest, best):
    """The best list, or a longer one that has the taken orders and some of the rest."""
    if len(taken) > len(best):
        best = taken
    for place, order in enumerate(rest):
        if len(taken) + len(rest) - place <= len(best):
            return best
        far = far_ones(way, d, order, rest[place + 1:])
        best = longest_from(way, d, taken + [order], far, best)
    return best


def far_ones(way, d, order, others):
    """The list of those of the others that are d far or farther from an order."""
    return [other for other in others if known_far(way, order, other) >= d]


def first_apart(way, n, d):
    """The list of orders that are taken, in order, where they are d far from all taken ones."""
    check_apart(way, n, MOST_LISTED, d)
    taken = []
    for order in all_orders(n):
        if is_far(way, d, order, taken):
            taken.append(order)
    return taken


def is_parting(way, n, d, thing):
    """Whether anything is a parting of all orders of n things into lists nearer than d."""
    check_apart(way, n, MOST_PARTED, d)
    if not isinstance(thing, list) or not all([is_order_list(part) and len(part) > 0 for part in thing]):
        return False
    if sorted([order for part in thing for order in part]) != all_orders(n):
        return False
    return all(are_near(way, d, part) for part in thing)


def are_near(way, d, orders):
    """Whether any two of a list of orders are nearer than d."""
    for place, order in enumerate(orders):
        if not is_near(way, d, order, orders[:place]):
            return False
    return True


def is_near(way, d, order, others):
    """Whether an order is nearer than d to all others."""
    return all(known_far(way, order, other) < d for other in others)


def first_parting(way, n, d):
    """The parting in which each order, in order, is put to the first list that it can be put to."""
    check_apart(way, n, MOST_PARTED, d)
    parts = []
    for order in all_orders(n):
        place = first_near(way, d, order, parts)
        if place is None:
            parts.append([order])
        else:
            parts[place].append(order)
    return parts


def first_near(way, d, order, parts):
    """The place of the first part in which an order is nearer than d to all, or None."""
    for place, part in enumerate(parts):
        if is_near(way, d, order, part):
            return place
    return None
