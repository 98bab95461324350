"""[8] and [9]: how many orders lie within a distance, and which."""

import math
import unittest

from farorders.errors import NoFit, NoNumber, NoOrder, NoWay
from farorders.orders import how_far
from farorders.within import all_within, count_at, count_within
from tests.helper import (
    LARGE, NO_ORDERS, NO_WAYS, NO_WHOLES, WAYS, Asking, far, greatest, orders, some_orders, steps_run
)

COUNTS = (count_within, count_at)


class Counts(Asking):

    def test_held_against_all_orders(self):
        for way in WAYS:
            for n in range(1, 7):
                distances = [far(way, list(range(n)), order) for order in orders(n)]
                for r in range(greatest(way, n) + 3):
                    with self.subTest(way=way, n=n, r=r):
                        self.assert_told(distances.count(r), count_at(way, n, r))
                        self.assert_told(sum(d <= r for d in distances), count_within(way, n, r))

    def test_the_same_of_each_order(self):
        for way in WAYS:
            for one in orders(4):
                distances = [how_far(way, one, order) for order in orders(4)]
                for r in range(8):
                    self.assertEqual(distances.count(r), count_at(way, 4, r))

    def test_one_thing(self):
        for way in WAYS:
            for r in (0, 1, 2, 66, LARGE):
                self.assert_told(1, count_within(way, 1, r))
                self.assert_told(1 if r == 0 else 0, count_at(way, 1, r))

    def test_twelve_things(self):
        self.assert_told([1, 11, 65, 274, 923], [count_at("swap", 12, r) for r in range(5)])
        self.assert_told([274, 65, 11, 1, 0], [count_at("swap", 12, r) for r in range(63, 68)])
        self.assert_told([1, 0, 66, 440, 4455], [count_at("spot", 12, r) for r in range(5)])
        # All twelve at other places.
        self.assert_told([176214841, 0], [count_at("spot", 12, r) for r in (12, 13)])
        # Neighbours exchanged: as many as the sums 1, 2, 3, 5, 8 .. have it.
        self.assert_told([1, 233], [count_within("shift", 12, r) for r in (0, 1)])
        self.assert_told(math.factorial(12) - math.factorial(10) * 21, count_within("shift", 12, 10))

    def test_within_is_the_sum_of_all_just_so_far(self):
        for way in WAYS:
            for n in range(1, 13):
                so_far = 0
                for r in range(greatest(way, n) + 2):
                    so_far += count_at(way, n, r)
                    self.assert_told(so_far, count_within(way, n, r))
                self.assertEqual(so_far, math.factorial(n))

    def test_the_greatest_distance_and_beyond_it(self):
        for way in WAYS:
            for n in range(1, 13):
                most = greatest(way, n)
                self.assertGreater(count_at(way, n, most), 0)
                for r in (most, most + 1, 1000, LARGE):
                    self.assert_told(math.factorial(n), count_within(way, n, r))
                for r in (most + 1, most + 2, 1000, LARGE):
                    self.assert_told(0, count_at(way, n, r))

    def test_no_order_is_just_one_spot_far(self):
        for n in range(1, 13):
            self.assert_told(0, count_at("spot", n, 1))

    def test_not_all_are_gone_through(self):
        for n in range(9, 13):
            for function in COUNTS:
                for way in WAYS:
                    for r in (1, n // 2, n - 1, LARGE):
                        steps_run(min(math.factorial(n), 3000000), function, way, n, r)

    def test_no_way_ahead_of_no_number(self):
        for function in COUNTS:
            for way in NO_WAYS:
                self.assert_refused(NoWay, function, way, 4, 1)
                self.assert_refused(NoWay, function, way, 13, 1)
                self.assert_refused(NoWay, function, way, 4, -1)
                self.assert_refused(NoWay, function, way, None, None)

    def test_no_number(self):
        for function in COUNTS:
            for way in WAYS:
                for n in [0, -1, 13, 14, LARGE, -LARGE] + NO_WHOLES:
                    self.assert_refused(NoNumber, function, way, n, 1)
                    self.assert_refused(NoNumber, function, way, n, 0)
                for r in [-1, -2, -LARGE] + NO_WHOLES:
                    self.assert_refused(NoNumber, function, way, 4, r)
                    self.assert_refused(NoNumber, function, way, 13, r)

    def test_asked_again(self):
        for function in COUNTS:
            for way in WAYS:
                self.assert_own(function, way, 7, 3)


class AllWithin(Asking):

    def test_by_hand(self):
        self.assert_told([[0]], all_within("swap", [0], 0))
        self.assert_told([[0, 2, 1], [2, 0, 1], [2, 1, 0]], all_within("swap", [2, 0, 1], 1))
        self.assert_told([[2, 0, 1]], all_within("spot", [2, 0, 1], 1))
        self.assert_told([[0, 2, 1], [2, 0, 1], [2, 1, 0]], all_within("shift", [2, 0, 1], 1))
        self.assert_told([[0, 2, 1], [1, 0, 2], [2, 0, 1], [2, 1, 0]], all_within("spot", [2, 0, 1], 2))

    def test_held_against_all_orders(self):
        for way in WAYS:
            for n in range(1, 5):
                for order in orders(n):
                    for r in range(greatest(way, n) + 2):
                        near = [other for other in orders(n) if far(way, order, other) <= r]
                        self.assert_told(near, all_within(way, order, r))
            for n in (5, 6):
                for order in some_orders(n):
                    for r in (0, 1, 2, greatest(way, n) - 1):
                        near = [other for other in orders(n) if far(way, order, other) <= r]
                        self.assert_told(near, all_within(way, order, r))

    def test_as_many_as_told(self):
        for way in WAYS:
            for n in range(1, 7):
                for r in range(greatest(way, n) + 2):
                    told = all_within(way, some_orders(n)[-1], r)
                    self.assertEqual(len(told), count_within(way, n, r))

    def test_none_far_and_all(self):
        for way in WAYS:
            for n in range(1, 7):
                for order in some_orders(n):
                    self.assert_told([order], all_within(way, order, 0))
                    for r in (greatest(way, n), greatest(way, n) + 1, LARGE):
                        self.assert_told(orders(n), all_within(way, order, r))

    def test_no_order_ahead_of_all(self):
        for thing in NO_ORDERS:
            self.assert_refused(NoOrder, all_within, "swap", thing, 1)
            self.assert_refused(NoOrder, all_within, "no way", thing, 1)
            self.assert_refused(NoOrder, all_within, "swap", thing, -1)
            self.assert_refused(NoOrder, all_within, None, thing, None)

    def test_no_way_ahead_of_no_fit_and_no_number(self):
        for way in NO_WAYS:
            self.assert_refused(NoWay, all_within, way, [1, 0], 1)
            self.assert_refused(NoWay, all_within, way, [1, 0], -1)
            self.assert_refused(NoWay, all_within, way, list(range(7)), 1)
            self.assert_refused(NoWay, all_within, way, list(range(12)), None)

    def test_no_fit_ahead_of_no_number(self):
        for way in WAYS:
            for n in range(7, 13):
                self.assert_refused(NoFit, all_within, way, list(range(n)), 0)
                for r in [-1] + NO_WHOLES:
                    self.assert_refused(NoFit, all_within, way, list(range(n)), r)

    def test_no_number(self):
        for way in WAYS:
            for n in (1, 6):
                for r in [-1, -LARGE] + NO_WHOLES:
                    self.assert_refused(NoNumber, all_within, way, list(range(n)), r)

    def test_own(self):
        for way in WAYS:
            self.assert_own(all_within, way, [2, 0, 1], 0)
            self.assert_own(all_within, way, [2, 0, 3, 1], 2)


if __name__ == "__main__":
    unittest.main()
