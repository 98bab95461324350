"""Ways from one order to another: walks by neighbours, and rounds."""

from farorders.checks import is_whole
from farorders.errors import NoPlace
from farorders.orders import check_fit, check_order, check_orders, seats_in


def is_walk(thing, n):
    """Whether anything is a walk from an order of n things."""
    if not isinstance(thing, list):
        return False
    return all([is_whole(place) and 0 <= place < n - 1 for place in thing])


def walk_end(order, walk):
    """The order that comes of an order by a walk from it."""
    check_order(order)
    if not is_walk(walk, len(order)):
        raise NoPlace("not a list of places that have a next one in the order")
    end = list(order)
    for place in walk:
        exchange(end, place)
    return end


def exchange(row, place):
    """Let what stands at the place and at the next one change places."""
    row[place], row[place + 1] = row[place + 1], row[place]


def short_walk(one, other):
    """The shortest walk from one order to the other, of several the first."""
    check_orders(one, other)
    check_fit(one, other)
    seats = seats_in(one, other)
    walk = []
    # Each exchange of a turned pair, and no other one, comes nearer by one:
    # so the first turned pair each time makes the first of the shortest walks.
    place = first_turned(seats)
    while place is not None:
        exchange(seats, place)
        walk.append(place)
        place = first_turned(seats)
    return walk


def first_turned(seats):
    """The first place with a greater number than the next place has, or None."""
    for place in range(len(seats) - 1):
        if seats[place] > seats[place + 1]:
            return place
    return None


def rounds_between(one, other):
    """The rounds of two and more things from one order to the other."""
    check_orders(one, other)
    check_fit(one, other)
    followers = followers_between(one, other)
    starts = [round_from(thing, followers) for thing in range(len(one))]
    # A round was gone through from each of its things; it is told from its least.
    return [things for things in starts if len(things) > 1 and things[0] == min(things)]


def followers_between(one, other):
    """At t the thing that stands in the one where thing t stands in the other."""
    followers = [0] * len(one)
    for follower, thing in zip(one, other):
        followers[thing] = follower
    return followers


def round_from(thing, followers):
    """The things of the round of a thing, from this thing on."""
    things = [thing]
    follower = followers[thing]
    while follower != thing:
        things.append(follower)
        follower = followers[follower]
    return things


def steps_between(one, other):
    """How many exchanges of any two things lead from one order to the other."""
    return sum([len(things) - 1 for things in rounds_between(one, other)])
