"""[10], [11] and [12]: lists that lie apart, the longest and the first of them, and partings."""

import copy
import itertools
import unittest

from farorders.apart import first_apart, first_parting, is_parting, lies_apart, longest_apart
from farorders.errors import NoNumber, NoWay
from tests.helper import (
    ALIKE_LISTS, LARGE, NO_ORDER_LISTS, NO_WAYS, NO_WHOLES, WAYS, Asking, far, greatest, least_far, orders, some_orders,
    steps_run
)

# How many things each of them takes at most.
TOLD = ((longest_apart, 4), (first_apart, 6), (first_parting, 5))
ASKED = ((lies_apart, 12), (is_parting, 5))


def longest_of_all(way, n, d):
    """How long a list that lies d apart can be, gone through in full."""
    everyone = orders(n)
    far_from = [sum(1 << k for k, b in enumerate(everyone) if far(way, a, b) >= d) for a in everyone]
    known = {0: 0}

    def most_of(left):
        if left not in known:
            least = (left & -left).bit_length() - 1
            without = left & ~(1 << least)
            known[left] = max(most_of(without), 1 + most_of(without & far_from[least]))
        return known[left]

    return most_of((1 << len(everyone)) - 1)


def first_of_all(way, n, d):
    """The first list, straight from the words of the document."""
    taken = []
    for order in orders(n):
        if all(far(way, order, other) >= d for other in taken):
            taken.append(order)
    return taken


def first_parts(way, n, d):
    """The told parting, straight from the words of the document."""
    parts = []
    for order in orders(n):
        for part in parts:
            if all(far(way, order, other) < d for other in part):
                part.append(order)
                break
        else:
            parts.append([order])
    return parts


def each_d(way, n):
    """Each d from 1 on, to beyond the greatest distance."""
    return range(1, greatest(way, n) + 3)


class LiesApart(Asking):

    def test_pairs(self):
        for way in WAYS:
            for n in (2, 3, 4):
                for one, other in itertools.combinations(orders(n), 2):
                    for d in each_d(way, n):
                        apart = far(way, one, other) >= d
                        self.assert_told(apart, lies_apart(way, n, d, [one, other]))
                        self.assert_told(apart, lies_apart(way, n, d, [other, one]))

    def test_each_pair_counts(self):
        for way in WAYS:
            for some in itertools.permutations([[0, 1, 2, 3], [1, 0, 3, 2], [3, 2, 1, 0]]):
                some = list(some)
                for d in each_d(way, 4):
                    self.assert_told(least_far(way, some) >= d, lies_apart(way, 4, d, some))

    def test_many_things(self):
        for way in WAYS:
            for n in range(5, 13):
                some = some_orders(n)
                least = least_far(way, some)
                self.assert_told(True, lies_apart(way, n, least, some))
                self.assert_told(False, lies_apart(way, n, least + 1, some))

    def test_by_hand(self):
        some = [[0, 1, 2], [1, 2, 0], [2, 0, 1]]
        self.assert_told(True, lies_apart("swap", 3, 2, some))
        self.assert_told(False, lies_apart("swap", 3, 3, some))
        self.assert_told(True, lies_apart("spot", 3, 3, some))
        self.assert_told(False, lies_apart("spot", 3, 4, some))
        self.assert_told(True, lies_apart("shift", 3, 2, some))
        self.assert_told(False, lies_apart("shift", 3, 3, some))

    def test_none_and_one(self):
        for way in WAYS:
            for n in range(1, 13):
                for d in (1, 2, 66, LARGE):
                    self.assert_told(True, lies_apart(way, n, d, []))
                    self.assert_told(True, lies_apart(way, n, d, [some_orders(n)[-1]]))

    def test_one_hundred_and_twenty_orders(self):
        everyone = orders(5)
        for way in WAYS:
            self.assert_told(True, lies_apart(way, 5, 1, everyone))
            self.assert_told(way == "spot", lies_apart(way, 5, 2, everyone))
            self.assert_told(False, lies_apart(way, 5, 1, everyone[:-1] + [everyone[0]]))

    def test_a_told_list_of_more(self):
        for way in WAYS:
            told = first_apart(way, 6, 1)
            self.assertEqual(720, len(told))
            self.assert_told(True, lies_apart(way, 6, 1, told))
            self.assert_told(way == "spot", lies_apart(way, 6, 2, told))

    def test_not_all_are_gone_through(self):
        for way in WAYS:
            for n in (9, 12):
                steps_run(100000, lies_apart, way, n, 1, some_orders(n))

    def test_alike_ones(self):
        for way in WAYS:
            for some in ALIKE_LISTS:
                for d in (1, 2, LARGE):
                    self.assert_told(False, lies_apart(way, len(some[0]), d, some))

    def test_other_many_things(self):
        for way in WAYS:
            for n in range(1, 13):
                for m in range(1, 13):
                    self.assert_told(n == m, lies_apart(way, n, 1, [list(range(m))]))
            self.assert_told(False, lies_apart(way, 3, 1, [[0, 1, 2], [0, 1]]))
            self.assert_told(False, lies_apart(way, 2, 1, [[0, 1, 2], [0, 1]]))
            self.assert_told(False, lies_apart(way, 2, 1, [[0, 1], [0, 1, 2]]))

    def test_anything(self):
        for way in WAYS:
            for n in (1, 2, 3, 12):
                for thing in NO_ORDER_LISTS:
                    with self.subTest(way=way, n=n, thing=thing):
                        self.assert_told(False, lies_apart(way, n, 1, thing))


class LongestApart(Asking):

    def test_none_is_longer(self):
        for way in WAYS:
            for n in (1, 2, 3, 4):
                for d in each_d(way, n):
                    with self.subTest(way=way, n=n, d=d):
                        self.assertEqual(longest_of_all(way, n, d), len(longest_apart(way, n, d)))

    def test_by_hand(self):
        longest = {way: [len(longest_apart(way, 4, d)) for d in each_d(way, 4)] for way in WAYS}
        self.assertEqual([24, 12, 5, 3, 2, 2, 1, 1], longest["swap"])
        self.assertEqual([24, 24, 12, 4, 1, 1], longest["spot"])
        self.assertEqual([24, 6, 3, 1, 1], longest["shift"])

    def test_it_lies_apart(self):
        for way in WAYS:
            for n in (1, 2, 3, 4):
                for d in [*each_d(way, n), LARGE]:
                    told = longest_apart(way, n, d)
                    self.assert_told(True, lies_apart(way, n, d, told))
                    self.assertGreaterEqual(len(told), 1)
                    if len(told) > 1:
                        self.assertGreaterEqual(least_far(way, told), d)

    def test_all_and_one(self):
        for way in WAYS:
            for n in (1, 2, 3, 4):
                self.assertEqual(orders(n), sorted(longest_apart(way, n, 1)))
                self.assertEqual(1, len(longest_apart(way, n, greatest(way, n) + 1)))
                self.assertEqual(1, len(longest_apart(way, n, LARGE)))


class FirstApart(Asking):

    def test_straight_from_the_words(self):
        for way in WAYS:
            for n in range(1, 6):
                for d in [*each_d(way, n), LARGE]:
                    with self.subTest(way=way, n=n, d=d):
                        self.assert_told(first_of_all(way, n, d), first_apart(way, n, d))
            for d in (3, 4, greatest(way, 6), LARGE):
                self.assert_told(first_of_all(way, 6, d), first_apart(way, 6, d))

    def test_by_hand(self):
        self.assert_told([[0]], first_apart("swap", 1, 1))
        self.assert_told([[0, 1, 2], [1, 2, 0], [2, 0, 1]], first_apart("swap", 3, 2))
        self.assert_told([[0, 1, 2], [2, 1, 0]], first_apart("swap", 3, 3))
        self.assert_told([[0, 1, 2], [1, 2, 0], [2, 0, 1]], first_apart("spot", 3, 3))
        self.assert_told([[0, 1, 2], [1, 2, 0], [2, 0, 1]], first_apart("shift", 3, 2))

    def test_no_order_more(self):
        for way in WAYS:
            for n in (1, 2, 3, 4):
                for d in each_d(way, n):
                    told = first_apart(way, n, d)
                    self.assert_told(True, lies_apart(way, n, d, told))
                    for order in orders(n):
                        self.assert_told(False, lies_apart(way, n, d, told + [order]))

    def test_six_things(self):
        for way in WAYS:
            self.assert_told(orders(6), first_apart(way, 6, 1))
            self.assert_told([list(range(6))], first_apart(way, 6, greatest(way, 6) + 1))
        self.assert_told([list(range(6)), [5, 4, 3, 2, 1, 0]], first_apart("swap", 6, 15))


class Partings(Asking):

    def test_straight_from_the_words(self):
        for way in WAYS:
            for n in range(1, 6):
                for d in [*each_d(way, n), LARGE]:
                    with self.subTest(way=way, n=n, d=d):
                        told = first_parting(way, n, d)
                        self.assert_told(first_parts(way, n, d), told)
                        self.assert_told(True, is_parting(way, n, d, told))

    def test_by_hand(self):
        self.assert_told([[[0]]], first_parting("swap", 1, 1))
        parts = [[[0, 1, 2], [0, 2, 1]], [[1, 0, 2], [1, 2, 0]], [[2, 0, 1], [2, 1, 0]]]
        self.assert_told(parts, first_parting("swap", 3, 2))
        self.assert_told(parts, first_parting("shift", 3, 2))
        self.assert_told([[order] for order in orders(3)], first_parting("spot", 3, 2))
        self.assert_told(parts, first_parting("spot", 3, 3))

    def test_one_and_all(self):
        for way in WAYS:
            for n in range(1, 6):
                self.assert_told([[order] for order in orders(n)], first_parting(way, n, 1))
                for d in (greatest(way, n) + 1, LARGE):
                    self.assert_told([orders(n)], first_parting(way, n, d))
                    self.assert_told(True, is_parting(way, n, d, [orders(n)]))

    def test_no_list_is_longer(self):
        for way in WAYS:
            for n in (1, 2, 3, 4):
                for d in each_d(way, n):
                    self.assertLessEqual(longest_of_all(way, n, d), len(first_parting(way, n, d)))

    def test_in_whatever_order(self):
        for way in WAYS:
            for d in (2, 3, 4):
                parts = [part[::-1] for part in first_parting(way, 4, d)]
                self.assert_told(True, is_parting(way, 4, d, parts[::-1]))
                self.assert_told(True, is_parting(way, 4, d, parts[2:] + parts[:2]))

    def test_farther_and_nearer(self):
        for way in WAYS:
            for n in (2, 3, 4, 5):
                for d in each_d(way, n):
                    parts = first_parting(way, n, d)
                    widest = max(far(way, a, b) for part in parts for a in part for b in part)
                    self.assertLess(widest, d)
                    self.assert_told(True, is_parting(way, n, widest + 1, parts))
                    self.assert_told(True, is_parting(way, n, LARGE, parts))
                    if widest > 0:
                        self.assert_told(False, is_parting(way, n, widest, parts))

    def test_each_pair_of_a_list_counts(self):
        # The first two and the last two are near, the first and the last are not.
        chain = [[0, 1, 2], [0, 2, 1], [2, 0, 1]]
        others = [[order] for order in orders(3) if order not in chain]
        for three in itertools.permutations(chain):
            self.assert_told(False, is_parting("swap", 3, 2, [list(three)] + others))
            self.assert_told(False, is_parting("swap", 3, 2, others + [list(three)]))
            self.assert_told(True, is_parting("swap", 3, 3, [list(three)] + others))

    def test_each_order_once(self):
        for way in WAYS:
            for n in (1, 2, 3):
                parts = [[order] for order in orders(n)]
                for d in (1, LARGE):
                    self.assert_told(True, is_parting(way, n, d, parts))
                    self.assert_told(False, is_parting(way, n, d, parts[1:]))
                    self.assert_told(False, is_parting(way, n, d, parts[:-1]))
                    self.assert_told(False, is_parting(way, n, d, parts + [parts[0]]))
                    self.assert_told(False, is_parting(way, n, d, parts[:-1] + [parts[-1] * 2]))
                    self.assert_told(n == 1, is_parting(way, n, d, parts[1:] + [parts[-1]]))
                    self.assert_told(False, is_parting(way, n, d, []))

    def test_no_empty_list(self):
        for way in WAYS:
            for n in (1, 2, 3):
                parts = [[order] for order in orders(n)]
                for place in range(len(parts) + 1):
                    self.assert_told(False, is_parting(way, n, LARGE, parts[:place] + [[]] + parts[place:]))
            self.assert_told(False, is_parting(way, 1, 1, [[]]))

    def test_other_many_things(self):
        for way in WAYS:
            for n in range(1, 6):
                for m in range(1, 6):
                    self.assert_told(n == m, is_parting(way, n, LARGE, [orders(m)]))
            self.assert_told(False, is_parting(way, 1, 1, [[[0]], [[0, 1]], [[1, 0]]]))
            self.assert_told(False, is_parting(way, 2, 1, [[[0]], [[0, 1]], [[1, 0]]]))
            self.assert_told(False, is_parting(way, 2, LARGE, [[[0, 1], [1, 0], [0]]]))

    def test_anything(self):
        near = [
            [[[0, 1]], ([1, 0],)], ([[0, 1]], [[1, 0]]), [[[0, 1]], [(1, 0)]], [[(0, 1)], [(1, 0)]], [[0, 1], [1, 0]],
            [[[0, 1], [1, 0]], None], [[[0, 1]], [[1, 0]], []], [[[0, 1]], [[1, False]]], [[[0, 1]], [[1, 0], None]],
            [[[0, 1]], {0: [1, 0]}], {0: [[0, 1], [1, 0]]}, [[[[0, 1], [1, 0]]]], [[[0, 1], [1, 1]]], [[[0, 1]], "10"],
            [[[0, True]], [[True, 0]]],
        ]
        for way in WAYS:
            self.assert_told(True, is_parting(way, 2, LARGE, [[[0, 1]], [[1, 0]]]))
            for n in (1, 2):
                for thing in near + NO_ORDER_LISTS + [[thing] for thing in NO_ORDER_LISTS]:
                    # What is no list of orders may be a parting: so this one.
                    if repr(thing) != "[[[0, 1], [1, 0]]]":
                        with self.subTest(way=way, n=n, thing=thing):
                            self.assert_told(False, is_parting(way, n, LARGE, thing))


class Refused(Asking):

    def test_no_way_ahead_of_no_number(self):
        for way in NO_WAYS:
            for function, most in TOLD:
                for n, d in ((2, 1), (0, 1), (most + 1, 1), (2, 0), (None, None)):
                    self.assert_refused(NoWay, function, way, n, d)
            for function, most in ASKED:
                for n, d in ((2, 1), (0, 1), (most + 1, 1), (2, 0), (None, None)):
                    self.assert_refused(NoWay, function, way, n, d, [])
                    self.assert_refused(NoWay, function, way, n, d, None)

    def test_no_number(self):
        for way in WAYS:
            for function, most in TOLD:
                for n in [0, -1, most + 1, most + 2, 13, LARGE, -LARGE] + NO_WHOLES:
                    self.assert_refused(NoNumber, function, way, n, 1)
                for d in [0, -1, -LARGE] + NO_WHOLES:
                    self.assert_refused(NoNumber, function, way, 1, d)
                    self.assert_refused(NoNumber, function, way, most, d)
            for function, most in ASKED:
                for n in [0, -1, most + 1, most + 2, 13, LARGE, -LARGE] + NO_WHOLES:
                    self.assert_refused(NoNumber, function, way, n, 1, [])
                    self.assert_refused(NoNumber, function, way, n, 1, None)
                for d in [0, -1, -LARGE] + NO_WHOLES:
                    self.assert_refused(NoNumber, function, way, 1, d, [[0]])
                    self.assert_refused(NoNumber, function, way, most, d, "no list")

    def test_the_most_things_are_taken(self):
        for way in WAYS:
            for function, most in TOLD:
                self.assertEqual(1, len(function(way, most, LARGE)))
            self.assert_told(True, lies_apart(way, 12, LARGE, [list(range(12))]))
            self.assert_told(True, is_parting(way, 5, LARGE, [orders(5)]))


class Own(Asking):

    def test_told_lists(self):
        for way in WAYS:
            for function, most in TOLD:
                for n in (1, 3, 4):
                    for d in (1, 2, 3, LARGE):
                        self.assert_own(function, way, n, d)

    def test_handed_in(self):
        for way in WAYS:
            self.assert_own(lies_apart, way, 3, 2, [[2, 1, 0], [0, 1, 2]])
            self.assert_own(lies_apart, way, 3, 2, [[2, 1, 0], "no order"])
            self.assert_own(is_parting, way, 2, 2, [[[1, 0], [0, 1]]])
            self.assert_own(is_parting, way, 2, 1, [[[1, 0]], [[0, 1]]])

    def test_a_changed_list_is_asked_anew(self):
        some = [[0, 1, 2], [2, 1, 0]]
        self.assert_told(True, lies_apart("swap", 3, 3, some))
        some.append([0, 2, 1])
        self.assert_told(False, lies_apart("swap", 3, 3, some))
        parts = first_parting("swap", 3, 2)
        whole = copy.deepcopy(parts)
        parts[0].pop()
        self.assert_told(False, is_parting("swap", 3, 2, parts))
        self.assert_told(True, is_parting("swap", 3, 2, whole))


if __name__ == "__main__":
    unittest.main()
