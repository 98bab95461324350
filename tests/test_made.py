"""[13] and [14]: orders and lists side by side, and lists made by rule."""

import itertools
import math
import unittest

from farorders.apart import lies_apart
from farorders.errors import NoFit, NoNumber, NoOrder, TooMany
from farorders.made import even_orders, lists_beside, orders_by_rests, ring_orders, side_by_side
from tests.helper import (
    ALIKE_LISTS, LARGE, NO_ORDER_LISTS, NO_ORDERS, NO_WHOLES, WAYS, Asking, least_far, orders, some_orders, steps_run,
    straight
)


class SideBySide(Asking):

    def test_by_hand(self):
        self.assert_told([0, 1], side_by_side([0], [0]))
        self.assert_told([1, 0, 4, 2, 3], side_by_side([1, 0], [2, 0, 1]))
        self.assert_told([2, 0, 1, 4, 3], side_by_side([2, 0, 1], [1, 0]))
        self.assert_told([0, 3, 2, 1], side_by_side([0], [2, 1, 0]))

    def test_straight_from_the_words(self):
        for n, m in itertools.product(range(1, 12), repeat=2):
            if n + m <= 12:
                for one, other in itertools.product(some_orders(n), some_orders(m)):
                    told = side_by_side(one, other)
                    self.assert_told(one + [n + number for number in other], told)
                    self.assertEqual(straight(n + m), sorted(told))

    def test_no_fit_where_there_are_too_many_things(self):
        for n, m in itertools.product(range(1, 13), repeat=2):
            if n + m > 12:
                self.assert_refused(NoFit, side_by_side, straight(n), straight(m))
                self.assert_refused(NoFit, lists_beside, [straight(n)], [straight(m)])
            else:
                self.assert_told(straight(n + m), side_by_side(straight(n), straight(m)))
                self.assert_told([straight(n + m)], lists_beside([straight(n)], [straight(m)]))

    def test_no_order_ahead_of_no_fit(self):
        for thing in NO_ORDERS:
            for order in ([0], straight(11), straight(12)):
                self.assert_refused(NoOrder, side_by_side, thing, order)
                self.assert_refused(NoOrder, side_by_side, order, thing)
            self.assert_refused(NoOrder, side_by_side, thing, thing)

    def test_own(self):
        self.assert_own(side_by_side, [1, 0], [2, 0, 1])
        self.assert_own(side_by_side, [0], [0])


class ListsBeside(Asking):

    def test_by_hand(self):
        self.assert_told([[0, 1]], lists_beside([[0]], [[0]]))
        some = [[1, 0], [0, 1]]
        others = [[2, 0, 1], [0, 1, 2], [1, 0, 2]]
        beside = [
            [1, 0, 4, 2, 3], [1, 0, 2, 3, 4], [1, 0, 3, 2, 4],
            [0, 1, 4, 2, 3], [0, 1, 2, 3, 4], [0, 1, 3, 2, 4],
        ]
        self.assert_told(beside, lists_beside(some, others))

    def test_each_with_each_in_order(self):
        for n, m in ((1, 1), (1, 6), (3, 5), (5, 3), (6, 6), (11, 1)):
            some = some_orders(n)
            others = some_orders(m)[::-1]
            beside = [one + [n + number for number in other] for one in some for other in others]
            self.assert_told(beside, lists_beside(some, others))

    def test_alike_ones_are_taken(self):
        self.assert_told([[0, 1], [0, 1]], lists_beside([[0]], [[0], [0]]))
        for some in ALIKE_LISTS:
            if len(some[0]) < 12:
                n = len(some[0])
                self.assert_told([one + [n] for one in some], lists_beside(some, [[0]]))
                self.assert_told([[0] + [1 + thing for thing in one] for one in some], lists_beside([[0]], some))

    def test_as_far_apart_as_the_nearer(self):
        few = [list(some) for n in (2, 3) for some in itertools.combinations(orders(n), 2)]
        more = [some_orders(4)[:3], some_orders(5)[1:4], even_orders(3), ring_orders(4), [[0, 1, 2, 3], [3, 2, 1, 0]]]
        for some, others in itertools.product(few + more, repeat=2):
            beside = lists_beside(some, others)
            n = len(beside[0])
            for way in WAYS:
                nearer = min(least_far(way, some), least_far(way, others))
                self.assert_told(True, lies_apart(way, n, nearer, beside))
                self.assert_told(False, lies_apart(way, n, nearer + 1, beside))

    def test_one_hundred_and_twenty_and_one_more(self):
        for many, times in ((120, 1), (60, 2), (40, 3), (24, 5), (12, 10), (11, 10)):
            for a, b in ((many, times), (times, many)):
                self.assertEqual(a * b, len(lists_beside(orders(5)[:a], orders(5)[:b])))
        for many, times in ((121, 1), (11, 11), (61, 2), (31, 4), (120, 2), (120, 120)):
            for a, b in ((many, times), (times, many)):
                self.assert_refused(TooMany, lists_beside, orders(6)[:a], orders(6)[:b])

    def test_no_fit_ahead_of_too_many(self):
        for a, b in ((1, 1), (11, 11), (121, 1), (1, 121)):
            self.assert_refused(NoFit, lists_beside, orders(6)[:a], [straight(7)] * b)
            self.assert_refused(NoFit, lists_beside, [straight(12)] * a, [[0]] * b)

    def test_no_order_ahead_of_all(self):
        empty = [[]]
        for thing in NO_ORDER_LISTS + empty:
            for fine in ([[0]], [straight(12)], [[0]] * 121, [straight(12)] * 121):
                self.assert_refused(NoOrder, lists_beside, thing, fine)
                self.assert_refused(NoOrder, lists_beside, fine, thing)
            self.assert_refused(NoOrder, lists_beside, thing, thing)
        long = [[0]] * 121 + [[1]]
        self.assert_refused(NoOrder, lists_beside, long, [[0]])
        self.assert_refused(NoOrder, lists_beside, [straight(12)], long)

    def test_own(self):
        self.assert_own(lists_beside, [[1, 0], [0, 1]], [[0], [0]])
        self.assert_own(lists_beside, [[0]], [[0]])


class EvenOrders(Asking):

    def test_by_hand(self):
        self.assert_told([[0]], even_orders(1))
        self.assert_told([[0, 1]], even_orders(2))
        self.assert_told([[0, 1, 2], [1, 2, 0], [2, 0, 1]], even_orders(3))

    def test_by_an_even_number_of_exchanges(self):
        for n in range(1, 6):
            even = {tuple(straight(n))}
            waiting = [straight(n)]
            for order in waiting:
                for (a, b), (c, d) in itertools.product(itertools.combinations(range(n), 2), repeat=2):
                    other = list(order)
                    other[a], other[b] = other[b], other[a]
                    other[c], other[d] = other[d], other[c]
                    if tuple(other) not in even:
                        even.add(tuple(other))
                        waiting.append(other)
            self.assert_told(sorted(waiting), even_orders(n))

    def test_how_many_and_how_far(self):
        for n in range(1, 6):
            told = even_orders(n)
            self.assertEqual(max(1, math.factorial(n) // 2), len(told))
            self.assert_told(True, lies_apart("spot", n, 3, told))
            self.assert_told(True, lies_apart("swap", n, 2, told))

    def test_too_many(self):
        for n in range(6, 13):
            self.assert_refused(TooMany, even_orders, n)


class OrdersByRests(Asking):

    def test_by_hand(self):
        self.assert_told([[0]], orders_by_rests(1, 1))
        self.assert_told(orders(3), orders_by_rests(3, 1))
        self.assert_told([[0, 1, 2], [2, 1, 0]], orders_by_rests(3, 2))
        self.assert_told([[0, 1, 2, 3], [0, 3, 2, 1], [2, 1, 0, 3], [2, 3, 0, 1]], orders_by_rests(4, 2))
        self.assert_told([[0, 1, 2, 3], [3, 1, 2, 0]], orders_by_rests(4, 3))

    def test_held_against_all_orders(self):
        for n in range(1, 8):
            for d in range(1, n + 3):
                fit = [order for order in orders(n) if all(order[p] % d == p % d for p in range(n))]
                with self.subTest(n=n, d=d):
                    if len(fit) > 120:
                        self.assert_refused(TooMany, orders_by_rests, n, d)
                    else:
                        self.assert_told(fit, orders_by_rests(n, d))

    def test_many_things(self):
        for n in range(8, 13):
            for d in range(1, n + 3):
                many = math.prod(math.factorial(len(range(rest, n, d))) for rest in range(d))
                with self.subTest(n=n, d=d):
                    if many > 120:
                        self.assert_refused(TooMany, orders_by_rests, n, d)
                        continue
                    told = orders_by_rests(n, d)
                    self.assertEqual(many, len(told))
                    self.assertEqual(sorted(told), told)
                    self.assert_told(True, lies_apart("shift", n, d, told))
                    for order in told:
                        self.assertTrue(all(order[p] % d == p % d for p in range(n)))

    def test_by_shift_d_apart(self):
        for n in range(1, 13):
            for d in range(1, 14):
                if n <= 5 or d >= 6:
                    self.assert_told(True, lies_apart("shift", n, d, orders_by_rests(n, d)))

    def test_d_of_n_and_beyond(self):
        for n in range(1, 13):
            for d in (n, n + 1, 100, LARGE):
                self.assert_told([straight(n)], orders_by_rests(n, d))
        self.assertEqual(64, len(orders_by_rests(12, 6)))
        self.assertEqual(120, len(orders_by_rests(5, 1)))
        self.assert_refused(TooMany, orders_by_rests, 6, 1)
        self.assert_refused(TooMany, orders_by_rests, 12, 1)

    def test_no_number(self):
        for n in [0, -1, 13, 14, LARGE, -LARGE] + NO_WHOLES:
            for d in (1, 2, LARGE, 0, None):
                self.assert_refused(NoNumber, orders_by_rests, n, d)
        for d in [0, -1, -2, -LARGE] + NO_WHOLES:
            for n in (1, 5, 6, 12, 13, None):
                self.assert_refused(NoNumber, orders_by_rests, n, d)


class RingOrders(Asking):

    def test_by_hand(self):
        self.assert_told([[0]], ring_orders(1))
        self.assert_told([[0, 1], [1, 0]], ring_orders(2))
        self.assert_told([[0, 1, 2, 3], [1, 2, 3, 0], [2, 3, 0, 1], [3, 0, 1, 2]], ring_orders(4))

    def test_each_number_of_things(self):
        for n in range(1, 13):
            told = ring_orders(n)
            self.assert_told([straight(n)[k:] + straight(n)[:k] for k in range(n)], told)
            self.assert_told(True, lies_apart("spot", n, n, told))


class Ruled(Asking):

    def test_no_number(self):
        for function in (even_orders, ring_orders):
            for n in [0, -1, 13, 14, LARGE, -LARGE] + NO_WHOLES:
                self.assert_refused(NoNumber, function, n)

    def test_own(self):
        for n in (1, 2, 4, 5):
            self.assert_own(even_orders, n)
            self.assert_own(ring_orders, n)
            for d in (1, 2, LARGE):
                self.assert_own(orders_by_rests, n, d)

    def test_not_all_are_gone_through(self):
        for n in (9, 10, 11, 12):
            steps_run(100000, ring_orders, n)
            for d in (6, 7, n, LARGE):
                steps_run(200000, orders_by_rests, n, d)
            steps_run(10000, self.ask_in_vain, even_orders, n)
            steps_run(10000, self.ask_in_vain, orders_by_rests, n, 1)
            steps_run(10000, self.ask_in_vain, orders_by_rests, n, 2)

    def ask_in_vain(self, function, *given):
        """What is refused as too many is not made first."""
        try:
            function(*given)
        except TooMany:
            return
        self.fail("not refused")


if __name__ == "__main__":
    unittest.main()
