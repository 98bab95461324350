"""[4] and [5]: orders, their backs, one behind another, and how far two are."""

import itertools
import math
import unittest

from farorders.errors import NoFit, NoOrder, NoWay
from farorders.orders import all_orders, back_of, how_far, is_order, order_behind
from tests.helper import NO_ORDERS, NO_WAYS, WAYS, Asking, far, orders, some_orders


class IsOrder(Asking):

    def test_orders(self):
        for n in range(1, 13):
            for order in some_orders(n):
                self.assertIs(is_order(order), True, order)

    def test_what_is_no_order(self):
        for thing in NO_ORDERS:
            with self.subTest(thing):
                self.assertIs(is_order(thing), False)

    def test_all_short_lists(self):
        for n in range(1, 5):
            found = [list(row) for row in itertools.product(range(-1, 5), repeat=n) if is_order(list(row))]
            self.assertEqual(found, orders(n))

    def test_one_twelve_and_thirteen_things(self):
        self.assertIs(is_order([0]), True)
        self.assertIs(is_order(list(range(12))), True)
        self.assertIs(is_order(list(range(13))), False)
        self.assertIs(is_order([]), False)

    def test_nothing_is_changed(self):
        order = [2, 0, 1]
        self.assertIs(is_order(order), True)
        self.assertEqual(order, [2, 0, 1])
        self.assertIs(is_order(order), True)


class BackOf(Asking):

    def test_by_hand(self):
        self.assert_told([0], back_of([0]))
        self.assert_told([1, 2, 0], back_of([2, 0, 1]))
        self.assert_told([2, 0, 3, 1], back_of([1, 3, 0, 2]))

    def test_has_the_place_of_each_thing(self):
        for n in range(1, 13):
            for order in some_orders(n):
                self.assert_told([order.index(thing) for thing in range(n)], back_of(order))

    def test_back_of_the_back(self):
        for order in orders(5):
            self.assertEqual(back_of(back_of(order)), order)

    def test_refused(self):
        for thing in NO_ORDERS:
            self.assert_refused(NoOrder, back_of, thing)

    def test_own(self):
        for order in ([0], [0, 1, 2], [3, 1, 0, 2]):
            self.assert_own(back_of, order)


class OrderBehind(Asking):

    def test_by_hand(self):
        self.assert_told([0], order_behind([0], [0]))
        self.assert_told([0, 2, 1], order_behind([1, 2, 0], [2, 1, 0]))
        self.assert_told([2, 1, 0], order_behind([2, 1, 0], [0, 1, 2]))
        self.assert_told([0, 3, 2, 1], order_behind([1, 3, 0, 2], [2, 1, 3, 0]))

    def test_has_first_at_second(self):
        for n in range(1, 13):
            for first in some_orders(n):
                for second in some_orders(n):
                    self.assert_told([first[second[p]] for p in range(n)], order_behind(first, second))

    def test_behind_the_back_is_straight(self):
        for order in orders(4):
            self.assertEqual(order_behind(order, back_of(order)), [0, 1, 2, 3])
            self.assertEqual(order_behind(back_of(order), order), [0, 1, 2, 3])

    def test_refused(self):
        for thing in NO_ORDERS:
            self.assert_refused(NoOrder, order_behind, thing, [1, 0])
            self.assert_refused(NoOrder, order_behind, [1, 0], thing)
            self.assert_refused(NoOrder, order_behind, thing, thing)
        self.assert_refused(NoFit, order_behind, [0], [0, 1])
        self.assert_refused(NoFit, order_behind, [0, 1], [0])
        self.assert_refused(NoFit, order_behind, list(range(12)), list(range(11)))

    def test_own(self):
        self.assert_own(order_behind, [0, 1, 2], [0, 1, 2])
        self.assert_own(order_behind, [2, 0, 1], [1, 2, 0])

    def test_one_list_handed_in_twice(self):
        order = [1, 2, 0]
        told = order_behind(order, order)
        self.assert_told([2, 0, 1], told)
        told[0] = 9
        self.assertEqual(order, [1, 2, 0])


class HowFar(Asking):

    def test_by_hand(self):
        for way, worth in (("swap", 6), ("spot", 4), ("shift", 3)):
            self.assert_told(worth, how_far(way, [0, 1, 2, 3], [3, 2, 1, 0]))
        for way, worth in (("swap", 3), ("spot", 4), ("shift", 3)):
            self.assert_told(worth, how_far(way, [0, 1, 2, 3], [3, 0, 1, 2]))
        for way, worth in (("swap", 2), ("spot", 3), ("shift", 2)):
            self.assert_told(worth, how_far(way, [2, 0, 1], [0, 1, 2]))

    def test_as_the_words_have_it(self):
        for way in WAYS:
            for n in range(1, 5):
                for one, other in itertools.product(orders(n), repeat=2):
                    self.assert_told(far(way, one, other), how_far(way, one, other))
            for n in range(5, 13):
                for one, other in itertools.product(some_orders(n), repeat=2):
                    self.assert_told(far(way, one, other), how_far(way, one, other))

    def test_shift_is_of_things_and_not_of_numbers(self):
        # Both have 3 and 0 exchanged, once at neighbouring places, once at the ends.
        self.assert_told(1, how_far("shift", [3, 0, 1, 2], [0, 3, 1, 2]))
        self.assert_told(3, how_far("shift", [0, 1, 2, 3], [3, 1, 2, 0]))

    def test_one_thing_and_twelve(self):
        straight = list(range(12))
        for way, worth in (("swap", 66), ("spot", 12), ("shift", 11)):
            self.assert_told(0, how_far(way, [0], [0]))
            self.assert_told(worth, how_far(way, straight, straight[::-1]))
            self.assert_told(0, how_far(way, straight, list(range(12))))

    def test_calling_the_things_otherwise_changes_nothing(self):
        for way in WAYS:
            for one, other in itertools.product(orders(4)[::5], orders(4)):
                told = how_far(way, one, other)
                self.assertEqual(how_far(way, other, one), told)
                for names in orders(4)[::3]:
                    renamed = order_behind(names, one), order_behind(names, other)
                    self.assertEqual(how_far(way, *renamed), told)

    def test_swap_is_the_shortest_way_by_neighbours(self):
        start = [2, 0, 3, 1]
        steps = {tuple(start): 0}
        reached = [start]
        for order in reached:
            for p in range(3):
                nearby = order[:p] + [order[p + 1], order[p]] + order[p + 2:]
                if tuple(nearby) not in steps:
                    steps[tuple(nearby)] = steps[tuple(order)] + 1
                    reached.append(nearby)
        for order in orders(4):
            self.assertEqual(how_far("swap", start, order), steps[tuple(order)])

    def test_no_order_ahead_of_all(self):
        for thing in NO_ORDERS:
            for way in ("swap", "no way", None):
                self.assert_refused(NoOrder, how_far, way, thing, [0, 1])
                self.assert_refused(NoOrder, how_far, way, [0, 1, 2], thing)
        self.assert_refused(NoOrder, how_far, [], [], [])

    def test_no_way_ahead_of_no_fit(self):
        for way in NO_WAYS:
            self.assert_refused(NoWay, how_far, way, [1, 0], [0, 1])
            self.assert_refused(NoWay, how_far, way, [0], [0, 1])

    def test_no_fit(self):
        for way in WAYS:
            self.assert_refused(NoFit, how_far, way, [0], [0, 1])
            self.assert_refused(NoFit, how_far, way, list(range(12)), list(range(11)))

    def test_nothing_is_changed(self):
        for way in WAYS:
            self.assert_own(how_far, way, [2, 0, 1], [1, 0, 2])
        order = [2, 0, 1]
        self.assert_told(0, how_far("swap", order, order))


class AllOrders(Asking):

    def test_all_in_order(self):
        for n in range(1, 7):
            told = all_orders(n)
            self.assertEqual(told, orders(n))
            self.assertEqual(len(told), math.factorial(n))


if __name__ == "__main__":
    unittest.main()
