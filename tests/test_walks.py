"""[6] and [7]: walks, shortest walks, rounds and steps."""

import itertools
import unittest

from farorders.errors import NoFit, NoOrder, NoPlace
from farorders.orders import how_far
from farorders.walks import rounds_between, short_walk, steps_between, walk_end
from tests.helper import NO_ORDERS, NO_WHOLES, Anything, Asking, orders, some_orders

NO_WALKS = [
    None, True, False, 0, 1, "", "0", b"", b"\x00", (), (0,), {}, {0: 0}, {0}, range(1), range(0), len, Anything(),
    [-1], [2], [3], [0, 2], [2, 0], [1, -1], [10 ** 25], [-10 ** 25], [[]], [[0]], [(0,)], ["0"], [b"0"], [0, None],
    [0, True], [False, 1], [[0], [1]], [[[[[[[[[[0]]]]]]]]]], [0] * 119 + [2],
] + [[thing] for thing in NO_WHOLES]


def end_of(order, walk):
    """The order at the end of a walk, by exchanges one by one."""
    for p in walk:
        order = order[:p] + [order[p + 1], order[p]] + order[p + 2:]
    return order


def first_shortest(one, other):
    """The first of the shortest walks: all walks are gone through, as lists are."""
    for length in range(100):
        for walk in itertools.product(range(len(one) - 1), repeat=length):
            if end_of(one, walk) == other:
                return list(walk)


def fewest_steps(start):
    """For each order the fewest exchanges of any two things from the start on."""
    steps = {tuple(start): 0}
    reached = [start]
    for order in reached:
        for p, q in itertools.combinations(range(len(start)), 2):
            nearby = list(order)
            nearby[p], nearby[q] = nearby[q], nearby[p]
            if tuple(nearby) not in steps:
                steps[tuple(nearby)] = steps[tuple(order)] + 1
                reached.append(nearby)
    return steps


class WalkEnd(Asking):

    def test_by_hand(self):
        self.assert_told([1, 0, 2], walk_end([0, 1, 2], [0]))
        self.assert_told([1, 2, 0], walk_end([0, 1, 2], [0, 1]))
        self.assert_told([2, 0, 1], walk_end([0, 1, 2], [1, 0]))
        self.assert_told([2, 0, 1], walk_end([2, 0, 1], [1, 1, 0, 0]))

    def test_all_short_walks(self):
        for order in ([0, 1, 2, 3], [2, 0, 3, 1]):
            for length in range(6):
                for walk in itertools.product(range(3), repeat=length):
                    self.assert_told(end_of(order, walk), walk_end(order, list(walk)))

    def test_long_walks_of_twelve_things(self):
        walk = [(7 * k + k * k) % 11 for k in range(120)]
        for order in some_orders(12):
            self.assert_told(end_of(order, walk), walk_end(order, walk))

    def test_empty_walks(self):
        for n in range(1, 13):
            for order in some_orders(n):
                self.assert_told(order, walk_end(order, []))

    def test_from_one_thing_only_the_empty_walk(self):
        self.assert_told([0], walk_end([0], []))
        for walk in ([0], [-1], [1], [0, 0]):
            self.assert_refused(NoPlace, walk_end, [0], walk)

    def test_the_last_place(self):
        for n in range(2, 13):
            order = list(range(n))
            self.assert_told(order[:-2] + [n - 1, n - 2], walk_end(order, [n - 2]))
            self.assert_refused(NoPlace, walk_end, order, [n - 1])
            self.assert_refused(NoPlace, walk_end, order, [0, n - 1, 0])

    def test_refused(self):
        for walk in NO_WALKS:
            self.assert_refused(NoPlace, walk_end, [2, 0, 1], walk)

    def test_no_order_ahead_of_no_place(self):
        for thing in NO_ORDERS:
            self.assert_refused(NoOrder, walk_end, thing, [])
            self.assert_refused(NoOrder, walk_end, thing, [0])
            self.assert_refused(NoOrder, walk_end, thing, None)
        for walk in NO_WALKS:
            self.assert_refused(NoOrder, walk_end, [0, 0], walk)

    def test_one_list_as_order_and_walk(self):
        order = [1, 0]
        self.assert_refused(NoPlace, walk_end, order, order)
        self.assertEqual(order, [1, 0])

    def test_own(self):
        self.assert_own(walk_end, [2, 0, 1], [])
        self.assert_own(walk_end, [2, 0, 1], [0, 1, 0])
        self.assert_own(walk_end, [0], [])


class ShortWalk(Asking):

    def test_by_hand(self):
        self.assert_told([], short_walk([0], [0]))
        self.assert_told([], short_walk([1, 2, 0], [1, 2, 0]))
        self.assert_told([0, 1, 0], short_walk([0, 1, 2], [2, 1, 0]))
        self.assert_told([0, 2], short_walk([0, 1, 2, 3], [1, 0, 3, 2]))
        self.assert_told([1, 0], short_walk([0, 1, 2], [2, 0, 1]))

    def test_first_of_the_shortest(self):
        for n in range(1, 4):
            for one, other in itertools.product(orders(n), repeat=2):
                self.assert_told(first_shortest(one, other), short_walk(one, other))
        for one in ([0, 1, 2, 3], [2, 0, 3, 1]):
            for other in orders(4):
                self.assert_told(first_shortest(one, other), short_walk(one, other))

    def test_leads_there_and_is_as_long_as_they_are_far(self):
        for n in range(1, 13):
            for one, other in itertools.product(some_orders(n), repeat=2):
                walk = short_walk(one, other)
                self.assertEqual(walk_end(one, walk), other)
                self.assertEqual(len(walk), how_far("swap", one, other))

    def test_twelve_things_turned_round(self):
        straight = list(range(12))
        walk = short_walk(straight, straight[::-1])
        self.assert_told([p for top in range(11) for p in range(top, -1, -1)], walk)
        self.assertEqual(len(walk), 66)

    def test_own(self):
        self.assert_own(short_walk, [2, 0, 1], [0, 1, 2])
        self.assert_own(short_walk, [2, 0, 1], [2, 0, 1])


class Rounds(Asking):

    def test_by_hand(self):
        self.assert_told([], rounds_between([0], [0]))
        self.assert_told([[0, 1]], rounds_between([0, 1], [1, 0]))
        # In the second order 0 stands where 2 stands in the first, 2 where 1, 1 where 0.
        self.assert_told([[0, 2, 1]], rounds_between([0, 1, 2], [1, 2, 0]))
        self.assert_told([[0, 1, 2]], rounds_between([0, 1, 2], [2, 0, 1]))
        self.assert_told([[0, 3], [1, 2]], rounds_between([0, 1, 2, 3], [3, 2, 1, 0]))
        self.assert_told([[1, 4, 3]], rounds_between([4, 3, 2, 1, 0], [1, 4, 2, 3, 0]))

    def check_rounds(self, one, other):
        rounds = rounds_between(one, other)
        for things in rounds:
            self.assertGreater(len(things), 1)
            self.assertEqual(things[0], min(things))
            for thing, follower in zip(things, things[1:] + things[:1]):
                self.assertEqual(other.index(thing), one.index(follower))
        self.assertEqual([things[0] for things in rounds], sorted(things[0] for things in rounds))
        moved = [thing for thing in range(len(one)) if one.index(thing) != other.index(thing)]
        self.assertEqual(sorted(thing for things in rounds for thing in things), moved)

    def test_as_the_words_have_it(self):
        for n in range(1, 5):
            for one, other in itertools.product(orders(n), repeat=2):
                self.check_rounds(one, other)
        for n in range(5, 13):
            for one, other in itertools.product(some_orders(n), repeat=2):
                self.check_rounds(one, other)

    def test_alike_orders_have_none(self):
        for n in range(1, 13):
            for order in some_orders(n):
                self.assert_told([], rounds_between(order, list(order)))
                self.assert_told(0, steps_between(order, order))

    def test_own(self):
        self.assert_own(rounds_between, [0, 1, 2, 3, 4], [3, 2, 1, 0, 4])
        self.assert_own(rounds_between, [2, 0, 1], [2, 0, 1])


class Steps(Asking):

    def test_by_hand(self):
        self.assert_told(0, steps_between([0], [0]))
        self.assert_told(2, steps_between([0, 1, 2], [1, 2, 0]))
        self.assert_told(2, steps_between([0, 1, 2, 3], [3, 2, 1, 0]))
        self.assert_told(11, steps_between(list(range(12)), [*range(1, 12), 0]))
        self.assert_told(6, steps_between(list(range(12)), list(range(12))[::-1]))

    def test_fewest_exchanges_of_any_two(self):
        for start in ([0], [1, 0], [2, 0, 1], [2, 0, 3, 1], [4, 1, 3, 0, 2]):
            steps = fewest_steps(start)
            for order in orders(len(start)):
                self.assert_told(steps[tuple(order)], steps_between(start, order))

    def test_things_less_lists(self):
        for n in range(1, 13):
            for one, other in itertools.product(some_orders(n), repeat=2):
                rounds = rounds_between(one, other)
                self.assert_told(sum(map(len, rounds)) - len(rounds), steps_between(one, other))

    def test_own(self):
        self.assert_own(steps_between, [0, 1, 2, 3, 4], [3, 2, 1, 0, 4])


class TwoOrders(Asking):

    def test_refused(self):
        for function in (short_walk, rounds_between, steps_between):
            for thing in NO_ORDERS:
                self.assert_refused(NoOrder, function, thing, [0, 1])
                self.assert_refused(NoOrder, function, [0, 1, 2], thing)
                self.assert_refused(NoOrder, function, thing, thing)
            self.assert_refused(NoFit, function, [0], [0, 1])
            self.assert_refused(NoFit, function, [0, 1], [0])
            self.assert_refused(NoFit, function, list(range(12)), list(range(11)))


if __name__ == "__main__":
    unittest.main()
