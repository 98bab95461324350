"""[15], [16] and [17]: led to the nearest of a list, and lists that are sure."""

import itertools
import unittest

from farorders.apart import first_apart, longest_apart
from farorders.errors import NoFit, NoNumber, NoOrder, NoWay
from farorders.made import even_orders, orders_by_rests, ring_orders
from farorders.nearest import led_back, nearest_of, not_sure, shows_not_sure
from farorders.within import all_within
from tests.helper import (
    ALIKE_LISTS, LARGE, NO_ORDER_LISTS, NO_ORDERS, NO_WAYS, NO_WHOLES, WAYS, Asking, far, greatest, orders, some_orders,
    steps_run, straight
)

NO_ERRORS = [-1, -2, -LARGE] + NO_WHOLES
# What is no list of one to one hundred and twenty unlike orders of as many things.
NO_LISTS = NO_ORDER_LISTS + ALIKE_LISTS + [[], orders(6)[:121], orders(6)]


def some_lists(n):
    """A few lists of unlike orders of n things, not all sorted."""
    everyone = orders(n)
    lists = [everyone[:1], everyone[-1:], everyone[::-1], everyone[1::2], everyone[-1::-3], everyone[:2][::-1]]
    return [some for some in lists if 0 < len(some) <= 120]


def first_doubt(way, some, e):
    """What shows that a list is not sure, straight from the words of the document."""
    for order in orders(len(some[0])):
        near = [one for one in some if far(way, order, one) <= e]
        if len(near) >= 2:
            return (order, near[0], near[1])
    return None


class NearestOf(Asking):

    def test_by_hand(self):
        some = [[2, 1, 0], [0, 1, 2], [1, 0, 2]]
        self.assert_told((1, [[0, 1, 2]]), nearest_of("swap", [0, 2, 1], some))
        self.assert_told((2, [[0, 1, 2]]), nearest_of("spot", [0, 2, 1], some))
        self.assert_told((1, [[0, 1, 2]]), nearest_of("shift", [0, 2, 1], some))
        self.assert_told((1, [[2, 0, 1], [0, 1, 2]]), nearest_of("shift", [0, 2, 1], [[2, 0, 1], *some]))
        self.assert_told((0, [[1, 0, 2]]), nearest_of("spot", [1, 0, 2], some))
        self.assert_told((0, [[0]]), nearest_of("shift", [0], [[0]]))

    def test_straight_from_the_words(self):
        for way in WAYS:
            for n in range(1, 5):
                for some in some_lists(n):
                    for order in orders(n):
                        r = min(far(way, order, one) for one in some)
                        near = [one for one in some if far(way, order, one) == r]
                        self.assert_told((r, near), nearest_of(way, order, some))

    def test_all_that_are_so_near_in_the_order_of_the_list(self):
        for some in itertools.permutations([[1, 0, 2], [0, 2, 1], [2, 1, 0]]):
            near = [one for one in some if one != [2, 1, 0]]
            self.assert_told((1, near), nearest_of("swap", [0, 1, 2], list(some)))

    def test_many_things(self):
        for way in WAYS:
            for n in range(5, 13):
                some = some_orders(n)
                for order in [straight(n), straight(n)[2:] + [1, 0], straight(n)[3:] + [2, 0, 1]]:
                    r = min(far(way, order, one) for one in some)
                    near = [one for one in some if far(way, order, one) == r]
                    self.assert_told((r, near), nearest_of(way, order, some))

    def test_not_all_are_gone_through(self):
        for way in WAYS:
            for n in (9, 12):
                steps_run(100000, nearest_of, way, straight(n), some_orders(n))
                steps_run(100000, led_back, way, straight(n), some_orders(n), 3)

    def test_one_hundred_and_twenty_and_one_more(self):
        some = orders(6)[:120]
        for way in WAYS:
            self.assert_told((0, [some[-1]]), nearest_of(way, some[-1], some))
            self.assert_refused(NoOrder, nearest_of, way, some[-1], orders(6)[:121])
            self.assert_told(("one", some[-1]), led_back(way, some[-1], some, 0))
            self.assert_refused(NoOrder, led_back, way, some[-1], orders(6)[:121], 0)


class LedBack(Asking):

    def test_by_hand(self):
        some = [[2, 1, 0], [0, 1, 2]]
        self.assert_told(("one", [0, 1, 2]), led_back("swap", [0, 2, 1], some, 1))
        self.assert_told(("none",), led_back("swap", [0, 2, 1], some, 0))
        self.assert_told(("several", [[2, 1, 0], [0, 1, 2]]), led_back("swap", [0, 2, 1], some, 2))
        self.assert_told(("several", [[0, 1, 2], [2, 1, 0]]), led_back("swap", [0, 2, 1], some[::-1], 2))
        self.assert_told(("none",), led_back("spot", [0, 2, 1], some, 1))
        self.assert_told(("one", [0, 1, 2]), led_back("spot", [0, 2, 1], some, 2))
        self.assert_told(("one", [0, 1, 2]), led_back("shift", [0, 2, 1], some, 1))
        self.assert_told(("several", [[0, 1, 2], [2, 0, 1]]), led_back("shift", [0, 2, 1], [*some, [2, 0, 1]], 1))

    def test_straight_from_the_words(self):
        for way in WAYS:
            for n in range(1, 5):
                for some in some_lists(n):
                    for order in orders(n)[::2]:
                        for e in [*range(greatest(way, n) + 2), LARGE]:
                            near = [one for one in some if far(way, order, one) <= e]
                            worth = ("several", near)
                            if len(near) < 2:
                                worth = ("one", near[0]) if near else ("none",)
                            self.assert_told(worth, led_back(way, order, some, e))

    def test_no_errors(self):
        for way in WAYS:
            for n in range(1, 13):
                some = ring_orders(n)
                for order in some:
                    self.assert_told(("one", order), led_back(way, order, some, 0))
            self.assert_told(("none",), led_back(way, [1, 0, 2], ring_orders(3), 0))

    def test_an_order_with_few_errors_is_led_to_the_one_it_came_from(self):
        for way in WAYS:
            for n in (2, 3, 4, 5):
                for d in range(1, greatest(way, n) + 1):
                    some = first_apart(way, n, d)
                    e = (d - 1) // 2
                    for one in some:
                        for order in all_within(way, one, e):
                            self.assert_told(("one", one), led_back(way, order, some, e))
                            self.assert_told([one], nearest_of(way, order, some)[1])

    def test_made_lists_of_many_things(self):
        some = orders_by_rests(12, 6)
        for one in some[::7]:
            order = one[:]
            order[3:5] = order[4], order[3]
            order[9:11] = order[10], order[9]
            self.assert_told(("one", one), led_back("shift", order, some, 2))
        for one in ring_orders(12):
            order = one[:]
            order[1], order[4], order[7] = order[4], order[7], order[1]
            self.assert_told(("one", one), led_back("spot", order, ring_orders(12), 5))
            self.assert_told(("none",), led_back("spot", order, ring_orders(12), 2))


class NotSure(Asking):

    def test_by_hand(self):
        some = [[2, 1, 0], [0, 1, 2]]
        self.assert_told(None, not_sure("swap", some, 0))
        self.assert_told(None, not_sure("swap", some, 1))
        self.assert_told(([0, 1, 2], [2, 1, 0], [0, 1, 2]), not_sure("swap", some, 3))
        self.assert_told(([0, 2, 1], [2, 1, 0], [0, 1, 2]), not_sure("swap", some, 2))
        self.assert_told(([0, 2, 1], [0, 1, 2], [2, 1, 0]), not_sure("swap", some[::-1], 2))
        self.assert_told(None, not_sure("shift", some, 1))
        self.assert_told(([0, 1, 2], [2, 1, 0], [0, 1, 2]), not_sure("shift", some, 2))
        self.assert_told(([0, 2, 1], [2, 0, 1], [0, 1, 2]), not_sure("shift", [[2, 0, 1], *some], 1))
        three = [[1, 0, 2], [2, 0, 1], [0, 2, 1]]
        self.assert_told(([0, 1, 2], [1, 0, 2], [0, 2, 1]), not_sure("swap", three, 1))
        self.assert_told(None, not_sure("swap", [[0]], LARGE))

    def test_straight_from_the_words(self):
        for way in WAYS:
            for n in range(1, 5):
                for some in some_lists(n) + [longest_apart(way, n, d)[::-1] for d in (2, 3)]:
                    for e in [*range(greatest(way, n) + 2), LARGE]:
                        self.assert_told(first_doubt(way, some, e), not_sure(way, some, e))

    def test_six_things_and_seven(self):
        for way in WAYS:
            some = some_orders(6)
            for e in range(4):
                self.assert_told(first_doubt(way, some, e), not_sure(way, some, e))
            self.assert_refused(NoFit, not_sure, way, some_orders(7), 1)
            self.assert_told(None, not_sure(way, orders(6)[:120], 0))
            self.assert_told((straight(6), *orders(6)[:2]), not_sure(way, orders(6)[:120], 2))

    def test_no_errors_and_one_order(self):
        for way in WAYS:
            for n in range(1, 7):
                self.assert_told(None, not_sure(way, orders(n)[:120], 0))
                self.assert_told(None, not_sure(way, orders(n)[:1], LARGE))

    def test_apart_is_sure(self):
        for way in WAYS:
            for n in (3, 4, 5):
                for e in (1, 2, 3):
                    self.assert_told(None, not_sure(way, first_apart(way, n, 2 * e + 1), e))
        self.assert_told(None, not_sure("spot", even_orders(5), 1))

    def test_one_hundred_and_twenty_and_one_more(self):
        for way in WAYS:
            self.assert_told(None, not_sure(way, orders(5), 0))
            self.assert_refused(NoOrder, not_sure, way, orders(6)[:121], 0)
            three = (straight(6), straight(6), [0, 1, 2, 3, 5, 4])
            self.assert_told(True, shows_not_sure(way, orders(6)[:120], 2, three))
            self.assert_refused(NoOrder, shows_not_sure, way, orders(6)[:121], 2, three)


class ShowsNotSure(Asking):

    def test_what_is_told_shows_it(self):
        for way in WAYS:
            for n in (2, 3, 4):
                for some in some_lists(n):
                    for e in range(greatest(way, n) + 1):
                        told = not_sure(way, some, e)
                        if told is not None:
                            order, one, other = told
                            self.assert_told(True, shows_not_sure(way, some, e, told))
                            self.assert_told(True, shows_not_sure(way, some, e, (order, other, one)))

    def test_straight_from_the_words(self):
        some = [[2, 1, 0], [0, 1, 2], [1, 2, 0]]
        for way in WAYS:
            for e in range(4):
                for order, one, other in itertools.product(orders(3), repeat=3):
                    shown = one in some and other in some and one != other
                    shown = shown and far(way, order, one) <= e and far(way, order, other) <= e
                    self.assert_told(shown, shows_not_sure(way, some, e, (order, one, other)))

    def test_orders_that_do_not_show_it(self):
        some = [[2, 1, 0], [0, 1, 2]]
        for way in WAYS:
            for three in (
                ([0, 1, 2], [0, 1, 2], [0, 1, 2]), ([0, 1, 2], [2, 1, 0], [2, 1, 0]),
                ([0, 1, 2], [0, 1, 2], [1, 0, 2]), ([0, 1, 2], [1, 0, 2], [0, 1, 2]), ([0, 1, 2], [1, 0, 2], [0, 2, 1]),
                ([0, 1], [0, 1, 2], [2, 1, 0]), ([0, 1, 2, 3], [0, 1, 2], [2, 1, 0]), ([0], [0, 1, 2], [2, 1, 0]),
                ([0, 1, 2], [0, 1], [2, 1, 0]), ([0, 1, 2], [2, 1, 0], [0, 1, 2, 3]), ([0, 1], [0, 1], [1, 0]),
                (straight(12), [0, 1, 2], [2, 1, 0]), (straight(7), straight(7), straight(7)), ([0], [0], [0]),
                (straight(12), straight(12), straight(12)[::-1]),
            ):
                self.assert_told(False, shows_not_sure(way, some, LARGE, three))
            self.assert_told(True, shows_not_sure(way, some, LARGE, ([1, 0, 2], *some)))
            self.assert_told(False, shows_not_sure(way, some, 0, ([0, 1, 2], *some)))

    def test_just_within(self):
        some = [[0, 1, 2, 3], [3, 2, 1, 0]]
        for way in WAYS:
            for order in orders(4):
                least = max(far(way, order, one) for one in some)
                self.assert_told(True, shows_not_sure(way, some, least, (order, *some)))
                self.assert_told(False, shows_not_sure(way, some, least - 1, (order, *some)))

    def test_what_is_no_order_is_refused(self):
        some = [[1, 0], [0, 1]]
        for thing in NO_ORDERS:
            for three in ((thing, [1, 0], [0, 1]), ([1, 0], thing, [0, 1]), ([1, 0], [0, 1], thing)):
                self.assert_refused(NoOrder, shows_not_sure, "swap", some, 1, three)
                self.assert_refused(NoOrder, shows_not_sure, "no way", [straight(7)], -1, three)


class Refused(Asking):

    def asked(self, way, order, some, e):
        """Each of the four, with what it is asked."""
        three = (order, order, order)
        return (
            (nearest_of, way, order, some),
            (led_back, way, order, some, e),
            (not_sure, way, some, e),
            (shows_not_sure, way, some, e, three),
        )

    def test_no_order_ahead_of_all(self):
        for thing in NO_LISTS:
            for asked in self.asked("swap", [0, 1], thing, 1):
                self.assert_refused(NoOrder, *asked)
            for asked in self.asked("no way", straight(12), thing, -1):
                self.assert_refused(NoOrder, *asked)
        for thing in NO_ORDERS:
            for way, some, e in (("swap", [[0, 1]], 1), (None, [[0, 1]], -1), ("swap", [straight(12)], None)):
                self.assert_refused(NoOrder, nearest_of, way, thing, some)
                self.assert_refused(NoOrder, led_back, way, thing, some, e)

    def test_no_way_ahead_of_no_fit_and_no_number(self):
        for way in NO_WAYS:
            for some in ([[1, 0]], [[0, 1, 2]], [straight(7)], [straight(12)]):
                for e in (0, -1, None):
                    for asked in self.asked(way, [0, 1], some, e):
                        self.assert_refused(NoWay, *asked)

    def test_no_fit_ahead_of_no_number(self):
        for way in WAYS:
            for n, m in itertools.product(range(1, 13), repeat=2):
                if n != m:
                    self.assert_refused(NoFit, nearest_of, way, straight(n), [straight(m)])
                    for e in (0, LARGE, -1, None):
                        self.assert_refused(NoFit, led_back, way, straight(n), [straight(m)], e)
            for n in range(7, 13):
                for e in [0, 1, LARGE] + NO_ERRORS:
                    self.assert_refused(NoFit, not_sure, way, [straight(n)], e)
                    for m in (1, 6, n):
                        three = (straight(m), straight(m), straight(m))
                        self.assert_refused(NoFit, shows_not_sure, way, [straight(n)], e, three)

    def test_no_number(self):
        for way in WAYS:
            for e in NO_ERRORS:
                for n in (1, 3, 6):
                    for asked in self.asked(way, straight(n), [straight(n)], e)[1:]:
                        self.assert_refused(NoNumber, *asked)
                self.assert_refused(NoNumber, led_back, way, straight(12), [straight(12)], e)
                self.assert_refused(NoNumber, shows_not_sure, way, [[0]], e, ([0, 1], [0, 1], [0, 1]))


class Own(Asking):

    def test_told_lists(self):
        for way in WAYS:
            for e in (0, 1, 2, LARGE):
                some = [[2, 1, 0], [0, 1, 2], [1, 0, 2]]
                self.assert_own(nearest_of, way, [0, 1, 2], some)
                self.assert_own(led_back, way, [0, 1, 2], some, e)
                self.assert_own(led_back, way, [0, 2, 1], some, e)
                self.assert_own(not_sure, way, some, e)
                self.assert_own(shows_not_sure, way, some, e, ([0, 2, 1], [0, 1, 2], [1, 0, 2]))

    def test_the_order_itself_is_told_as_a_new_one(self):
        some = [[0, 1], [1, 0]]
        for way in WAYS:
            r, near = nearest_of(way, some[0], some)
            word, one = led_back(way, some[0], some, 0)
            order, first, second = not_sure(way, some, LARGE)
            several = led_back(way, some[0], some, LARGE)[1]
            for told in (near, near[0], one, order, first, second, several, *several):
                told.append(7)
            self.assert_told([[0, 1], [1, 0]], some)
            self.assert_told((0, [[0, 1]]), nearest_of(way, some[0], some))


if __name__ == "__main__":
    unittest.main()
