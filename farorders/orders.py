"""Orders of a few things, and how far two of them are."""

from farorders.checks import check_way, is_whole
from farorders.errors import NoFit, NoOrder

MOST_THINGS = 12
# All orders are gone through of no more things than these.
MOST_LISTED = 6
MOST_ORDERS = 120


def is_order(thing):
    """Whether anything is a list of the numbers from 0 on, each once."""
    if not isinstance(thing, list) or len(thing) < 1 or len(thing) > MOST_THINGS:
        return False
    # Asked first, since True would pass for 1, and not all kinds can be sorted.
    if not all([is_whole(number) for number in thing]):
        return False
    return sorted(thing) == list(range(len(thing)))


def check_order(thing):
    """Refuse what is no order."""
    if not is_order(thing):
        raise NoOrder("not a list of the numbers from 0 on, each once, one to twelve of them")


def check_orders(one, other):
    """Refuse two things that are not both orders."""
    check_order(one)
    check_order(other)


def check_fit(one, other):
    """Refuse two orders that are not of as many things."""
    if len(one) != len(other):
        raise NoFit("the orders are not of as many things")


def check_listed(order):
    """Refuse an order of so many things that not all orders are gone through."""
    if len(order) > MOST_LISTED:
        raise NoFit("the orders have more than six things")


def is_order_list(thing):
    """Whether anything is a list of orders of as many things, perhaps alike, perhaps none."""
    if not isinstance(thing, list) or not all([is_order(each) for each in thing]):
        return False
    return all([len(order) == len(thing[0]) for order in thing])


def is_unlike_list(thing):
    """Whether anything is a list of unlike orders of as many things, perhaps none."""
    return is_order_list(thing) and len({tuple(order) for order in thing}) == len(thing)


def back_of(order):
    """The order that has at place t the place at which thing t stands."""
    check_order(order)
    return places_in(order)


def places_in(order):
    """The back of what is known to be an order."""
    places = [0] * len(order)
    for place, thing in enumerate(order):
        places[thing] = place
    return places


def order_behind(first, second):
    """The order that has at place p the thing first[second[p]]."""
    check_orders(first, second)
    check_fit(first, second)
    return [first[place] for place in second]


def seats_in(one, other):
    """For each thing, as they stand in the one, its place in the other."""
    places = places_in(other)
    return [places[thing] for thing in one]


def how_far(way, one, other):
    """How far two orders of as many things are by a way."""
    check_orders(one, other)
    check_way(way)
    check_fit(one, other)
    return known_far(way, one, other)


def known_far(way, one, other):
    """How far two orders are, where all that is asked is known to fit."""
    if way == "swap":
        return far_by_swap(one, other)
    if way == "spot":
        return far_by_spot(one, other)
    return far_by_shift(one, other)


def far_by_swap(one, other):
    """How many pairs of things stand the other way round in the other."""
    seats = seats_in(one, other)
    turned = 0
    for place, seat in enumerate(seats):
        turned += len([later for later in seats[place + 1:] if later < seat])
    return turned


def far_by_spot(one, other):
    """At how many places the two have unlike things."""
    return len([place for place in range(len(one)) if one[place] != other[place]])


def far_by_shift(one, other):
    """The greatest difference between a thing's places in both."""
    return max([abs(place - seat) for place, seat in enumerate(seats_in(one, other))])


def all_orders(n):
    """All orders of n things, in order as lists are."""
    return orders_with([list(range(n))] * n)


def orders_with(choices):
    """All orders that have at each place one of its choices, in order as lists are."""
    begun = [[]]
    for things in choices:
        begun = [start + [thing] for start in begun for thing in things if thing not in start]
    return begun


def count_orders(n):
    """How many orders of n things there are."""
    many = 1
    for things in range(1, n + 1):
        many *= things
    return many
