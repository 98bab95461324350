"""A list that lies apart and is kept while orders come and are dropped."""

from farorders.apart import is_far
from farorders.checks import check_apart, check_few
from farorders.errors import NoFit, NoNumber
from farorders.made import check_many
from farorders.orders import MOST_LISTED, all_orders, check_order, known_far

MOST_KEPT = 8


class Lister:
    """Unlike orders of n things of which any two are d far or farther by a way."""

    def __init__(self, way, n, d):
        check_apart(way, n, MOST_KEPT, d)
        self.way = way
        self.n = n
        self.d = d
        # Sorted; a list is never changed but put in the place of the last one,
        # so that the earlier ones, the last at the end, can be gone back to.
        self.taken = []
        self.earlier = []

    def come(self, order):
        """Take an order, where none is nearer than d; told are those that are."""
        check_order(order)
        if len(order) != self.n:
            raise NoFit("the order is of other many things")
        check_many(len(self.taken) + 1)
        near = [list(other) for other in self.taken if known_far(self.way, order, other) < self.d]
        if len(near) == 0:
            self.change_to(sorted(self.taken + [list(order)]))
        return near

    def drop(self, order):
        """Drop an order that is there."""
        check_order(order)
        if order not in self.taken:
            raise NoFit("the order is not there")
        self.change_to([other for other in self.taken if other != order])

    def change_to(self, orders):
        """Have these orders from now on, in such a way that it can be undone."""
        self.earlier.append(self.taken)
        self.taken = orders

    def undo(self):
        """Undo what was taken or dropped last and is not undone yet."""
        if len(self.earlier) == 0:
            raise NoNumber("nothing is left to undo")
        self.taken = self.earlier.pop()

    def orders(self):
        """The orders that are there, sorted."""
        return [list(order) for order in self.taken]

    def least_apart(self):
        """The least distance of two of the orders, or None of fewer than two."""
        return min([
            known_far(self.way, order, other)
            for place, order in enumerate(self.taken) for other in self.taken[:place]
        ], default=None)

    def first_more(self):
        """The first order that would be taken, or None."""
        check_few(self.n, MOST_LISTED)
        for order in all_orders(self.n):
            if is_far(self.way, self.d, order, self.taken):
                return order
        return None

    def how_many_more(self):
        """How many orders would be taken, each by itself."""
        check_few(self.n, MOST_LISTED)
        return len([order for order in all_orders(self.n) if is_far(self.way, self.d, order, self.taken)])
