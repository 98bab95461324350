"""Orders and lists of orders made from parts, and lists made by rule."""

from farorders.checks import check_from, check_size
from farorders.errors import NoFit, NoOrder, TooMany
from farorders.orders import (
    MOST_ORDERS, MOST_THINGS, all_orders, check_orders, count_orders, far_by_swap, is_order_list, orders_with
)


def side_by_side(one, other):
    """The order of the first, then the second behind it."""
    check_orders(one, other)
    check_together(one, other)
    return put_beside(one, other)


def check_together(one, other):
    """Refuse two orders that have too many things together."""
    if len(one) + len(other) > MOST_THINGS:
        raise NoFit("the orders have more than twelve things together")


def put_beside(one, other):
    """The first, then the second with as many as the first has put to each number."""
    return one + [len(one) + thing for thing in other]


def lists_beside(some, others):
    """Each order of the first list side by side with each of the second."""
    check_order_list(some)
    check_order_list(others)
    check_together(some[0], others[0])
    check_many(len(some) * len(others))
    return [put_beside(one, other) for one in some for other in others]


def check_order_list(thing):
    """Refuse what is no list of orders of as many things, or is empty."""
    if not is_order_list(thing) or len(thing) == 0:
        raise NoOrder("not a list of orders of as many things")


def check_many(many):
    """Refuse to make a list of more orders than a list may have."""
    if many > MOST_ORDERS:
        raise TooMany("the list would have more than one hundred and twenty orders")


def even_orders(n):
    """The orders of n things that come from the first by an even number of exchanges."""
    check_size(n, MOST_THINGS)
    check_many(count_orders(n) // 2)
    orders = all_orders(n)
    return [order for order in orders if far_by_swap(orders[0], order) % 2 == 0]


def orders_by_rests(n, d):
    """The orders of n things in which each thing and its place leave the same by d."""
    check_size(n, MOST_THINGS)
    check_from(d, 1)
    check_many(count_by_rests(n, d))
    return orders_with([[thing for thing in range(n) if thing % d == place % d] for place in range(n)])


def count_by_rests(n, d):
    """How many orders of n things leave each thing at a place that leaves the same by d."""
    many = 1
    for thing in range(n):
        # So many things up to this one leave the same as it.
        many *= thing // d + 1
    return many


def ring_orders(n):
    """The first order of n things put on by each number below n, past the end from 0 on."""
    check_size(n, MOST_THINGS)
    return [[(thing + more) % n for thing in range(n)] for more in range(n)]
