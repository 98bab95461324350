"""[18], [19] and [20]: bounds of how long a list that lies apart can be."""

import math
import unittest

from farorders.apart import first_apart, first_parting, longest_apart
from farorders.bounds import best_bound, bounds_by_rounds, most_by_places
from farorders.errors import NoNumber, NoWay
from farorders.within import count_within
from tests.helper import LARGE, NO_WAYS, NO_WHOLES, WAYS, Asking, far, greatest, orders, steps_run


def bounds(n, many_within, d):
    """The least and the most, reckoned from how many are within each distance."""
    everyone = math.factorial(n)
    return (-(-everyone // many_within(d - 1)), everyone // many_within((d - 1) // 2))


def each_d(way, n):
    """Each d from 1 on, to beyond twice the greatest distance."""
    return [*range(1, 2 * greatest(way, n) + 4), LARGE - 1, LARGE]


class BoundsByRounds(Asking):

    def test_by_hand(self):
        self.assert_told((24, 24), bounds_by_rounds("swap", 4, 1))
        self.assert_told((6, 24), bounds_by_rounds("swap", 4, 2))
        self.assert_told((3, 6), bounds_by_rounds("swap", 4, 3))
        self.assert_told((2, 6), bounds_by_rounds("swap", 4, 4))
        self.assert_told((24, 24), bounds_by_rounds("spot", 4, 2))
        self.assert_told((4, 24), bounds_by_rounds("spot", 4, 3))
        self.assert_told((2, 24), bounds_by_rounds("spot", 4, 4))
        self.assert_told((1, 3), bounds_by_rounds("spot", 4, 5))
        self.assert_told((5, 24), bounds_by_rounds("shift", 4, 2))
        self.assert_told((2, 4), bounds_by_rounds("shift", 4, 3))
        # 720 orders, of which 20 are within 2 by swap, and 49 within 3.
        self.assert_told((36, 120), bounds_by_rounds("swap", 6, 3))
        self.assert_told((15, 120), bounds_by_rounds("swap", 6, 4))

    def test_reckoned_from_all_orders(self):
        for way in WAYS:
            for n in range(1, 7):
                distances = [far(way, list(range(n)), order) for order in orders(n)]
                for d in each_d(way, n):
                    worth = bounds(n, lambda r: sum(distance <= r for distance in distances), d)
                    with self.subTest(way=way, n=n, d=d):
                        self.assert_told(worth, bounds_by_rounds(way, n, d))

    def test_reckoned_from_the_counts(self):
        for way in WAYS:
            for n in range(7, 13):
                for d in each_d(way, n):
                    worth = bounds(n, lambda r: count_within(way, n, r), d)
                    self.assert_told(worth, bounds_by_rounds(way, n, d))

    def test_twelve_things(self):
        everyone = math.factorial(12)
        for way in WAYS:
            self.assert_told((everyone, everyone), bounds_by_rounds(way, 12, 1))
        self.assert_told((everyone // 12, everyone), bounds_by_rounds("swap", 12, 2))
        self.assert_told((-(-everyone // 77), everyone // 12), bounds_by_rounds("swap", 12, 3))
        self.assert_told((-(-everyone // 67), everyone), bounds_by_rounds("spot", 12, 3))
        self.assert_told((-(-everyone // 233), everyone), bounds_by_rounds("shift", 12, 2))

    def test_one_thing_and_beyond_the_greatest_distance(self):
        for way in WAYS:
            for d in (1, 2, 3, LARGE):
                self.assert_told((1, 1), bounds_by_rounds(way, 1, d))
            for n in range(1, 13):
                most = greatest(way, n)
                self.assertEqual(1, bounds_by_rounds(way, n, most + 1)[0])
                for d in (2 * most + 1, 2 * most + 2, LARGE):
                    self.assert_told((1, 1), bounds_by_rounds(way, n, d))

    def test_no_list_is_longer_and_the_first_is_no_shorter(self):
        for way in WAYS:
            for n in (1, 2, 3, 4):
                for d in each_d(way, n):
                    least, most = bounds_by_rounds(way, n, d)
                    self.assertLessEqual(len(longest_apart(way, n, d)), most)
                    self.assertGreaterEqual(len(first_apart(way, n, d)), least)
            for d in (3, 4, 5):
                least, most = bounds_by_rounds(way, 6, d)
                self.assertTrue(least <= len(first_apart(way, 6, d)) <= most)

    def test_not_all_are_gone_through(self):
        for n in (9, 10, 11, 12):
            for way in WAYS:
                for d in (1, 2, n, LARGE):
                    steps_run(min(math.factorial(n), 3000000), bounds_by_rounds, way, n, d)


class MostByPlaces(Asking):

    def test_the_numbers_from_d_to_n(self):
        for n in range(1, 13):
            for d in range(1, n + 1):
                self.assert_told(math.prod(range(d, n + 1)), most_by_places(n, d))

    def test_by_hand(self):
        self.assert_told(1, most_by_places(1, 1))
        self.assert_told(12, most_by_places(4, 3))
        self.assert_told(4, most_by_places(4, 4))
        self.assert_told(12, most_by_places(12, 12))
        self.assert_told(479001600, most_by_places(12, 1))

    def test_no_list_is_longer(self):
        for n in (1, 2, 3, 4):
            for d in range(1, n + 1):
                self.assertLessEqual(len(longest_apart("spot", n, d)), most_by_places(n, d))

    def test_no_number(self):
        for n in [0, -1, 13, 14, LARGE, -LARGE] + NO_WHOLES:
            for d in (1, 2, 13, 0, None):
                self.assert_refused(NoNumber, most_by_places, n, d)
        for n in range(1, 13):
            for d in [0, -1, n + 1, n + 2, 13, LARGE, -LARGE] + NO_WHOLES:
                self.assert_refused(NoNumber, most_by_places, n, d)


class BestBound(Asking):

    def test_by_hand(self):
        self.assert_told((1, ["rounds", "parting"]), best_bound("swap", 1, 1))
        self.assert_told((1, ["rounds", "places", "parting"]), best_bound("spot", 1, 1))
        self.assert_told((1, ["rounds", "parting"]), best_bound("spot", 1, 2))
        self.assert_told((12, ["parting"]), best_bound("swap", 4, 2))
        self.assert_told((6, ["rounds"]), best_bound("swap", 4, 3))
        self.assert_told((12, ["places", "parting"]), best_bound("spot", 4, 3))
        self.assert_told((1, ["parting"]), best_bound("spot", 4, 5))
        self.assert_told((4, ["rounds", "parting"]), best_bound("shift", 4, 3))
        self.assert_told((120, ["rounds"]), best_bound("swap", 6, 3))
        self.assert_told((720, ["rounds", "places"]), best_bound("spot", 6, 1))
        self.assert_told((360, ["places"]), best_bound("spot", 6, 3))

    def test_reckoned(self):
        for way in WAYS:
            for n in range(1, 7):
                for d in each_d(way, n):
                    known = [("rounds", bounds(n, lambda r: count_within(way, n, r), d)[1])]
                    if way == "spot" and d <= n:
                        known.append(("places", math.prod(range(d, n + 1))))
                    if n <= 5:
                        known.append(("parting", len(first_parting(way, n, d))))
                    least = min(bound for word, bound in known)
                    with self.subTest(way=way, n=n, d=d):
                        worth = (least, [word for word, bound in known if bound == least])
                        self.assert_told(worth, best_bound(way, n, d))

    def test_no_list_is_longer(self):
        for way in WAYS:
            for n in (1, 2, 3, 4):
                for d in each_d(way, n):
                    self.assertLessEqual(len(longest_apart(way, n, d)), best_bound(way, n, d)[0])
            for n in (5, 6):
                for d in (3, 4, 5, 6):
                    self.assertLessEqual(len(first_apart(way, n, d)), best_bound(way, n, d)[0])


class Refused(Asking):

    def test_no_way_ahead_of_no_number(self):
        for way in NO_WAYS:
            for function in (bounds_by_rounds, best_bound):
                for n, d in ((4, 2), (13, 2), (7, 0), (4, 0), (0, 2), (None, None)):
                    self.assert_refused(NoWay, function, way, n, d)

    def test_no_number(self):
        for way in WAYS:
            for function, most in ((bounds_by_rounds, 12), (best_bound, 6)):
                self.assertIsInstance(function(way, most, 2), tuple)
                for n in [0, -1, most + 1, 13, LARGE, -LARGE] + NO_WHOLES:
                    self.assert_refused(NoNumber, function, way, n, 1)
                for d in [0, -1, -LARGE] + NO_WHOLES:
                    for n in (1, most, most + 1):
                        self.assert_refused(NoNumber, function, way, n, d)


class Own(Asking):

    def test_asked_again(self):
        for way in WAYS:
            for n in (1, 4, 6):
                for d in (1, 3, LARGE):
                    self.assert_own(bounds_by_rounds, way, n, d)
                    self.assert_own(best_bound, way, n, d)
        self.assert_own(most_by_places, 5, 2)


if __name__ == "__main__":
    unittest.main()
