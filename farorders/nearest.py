"""Orders with errors led to the nearest of a list, and lists that are sure to lead back."""

from farorders.checks import check_from, check_way
from farorders.errors import NoOrder
from farorders.orders import (
    MOST_ORDERS, all_orders, check_fit, check_listed, check_order, is_order, is_unlike_list, known_far
)


def nearest_of(way, order, orders):
    """How far the nearest of a list is from an order, and all that are so near."""
    check_led(way, order, orders)
    r = min([known_far(way, order, other) for other in orders])
    return (r, those_within(way, order, orders, r))


def check_led(way, order, orders):
    """Refuse an order and a list that do not go together, or what is no way."""
    check_order(order)
    check_unlike_list(orders)
    check_way(way)
    check_fit(order, orders[0])


def check_unlike_list(thing):
    """Refuse what is no list of one to so many unlike orders of as many things."""
    if not is_unlike_list(thing) or len(thing) == 0 or len(thing) > MOST_ORDERS:
        raise NoOrder("not a list of one to one hundred and twenty unlike orders of as many things")


def those_within(way, order, orders, r):
    """Copies of those of a list that are within r of an order."""
    return [list(other) for other in orders if known_far(way, order, other) <= r]


def led_back(way, order, orders, e):
    """Whether one, several or none of a list are within e of an order, and which."""
    check_led(way, order, orders)
    check_from(e, 0)
    near = those_within(way, order, orders, e)
    if len(near) == 0:
        return ("none",)
    if len(near) == 1:
        return ("one", near[0])
    return ("several", near)


def not_sure(way, orders, e):
    """The first order that is within e of two of a list, with the first two of these, or None."""
    check_sure(way, orders, e)
    for order in all_orders(len(orders[0])):
        near = those_within(way, order, orders, e)
        if len(near) > 1:
            return (order, near[0], near[1])
    return None


def check_sure(way, orders, e):
    """Refuse what is no list, no way, a list of too many things, or no number of errors."""
    check_unlike_list(orders)
    check_way(way)
    check_listed(orders[0])
    check_from(e, 0)


def shows_not_sure(way, orders, e, thing):
    """Whether of three orders the first is within e of the other two, both of the list."""
    check_three(thing)
    check_sure(way, orders, e)
    order, one, other = thing
    if len(order) != len(orders[0]) or one == other or one not in orders or other not in orders:
        return False
    return len(those_within(way, order, [one, other], e)) == 2


def check_three(thing):
    """Refuse what is no tuple of three orders."""
    if not isinstance(thing, tuple) or len(thing) != 3 or not all([is_order(each) for each in thing]):
        raise NoOrder("not a tuple of three orders")
