"""[23]: a list that is kept while orders come and are dropped."""

import copy
import itertools
import random
import unittest

from farorders.apart import first_apart
from farorders.errors import NoFit, NoNumber, NoOrder, NoWay, TooMany
from farorders.lister import Lister
from tests.helper import (
    LARGE, NO_ORDERS, NO_WAYS, NO_WHOLES, WAYS, Asking, far, greatest, least_far, orders, some_orders, spoil,
    steps_run, straight
)

NO_SIZES = [0, -1, 9, 10, 12, 13, LARGE, -LARGE] + NO_WHOLES
NO_DISTANCES = [0, -1, -LARGE] + NO_WHOLES
METHODS = ("come", "drop", "undo", "orders", "least_apart", "first_more", "how_many_more")


class Plain:
    """What a Lister is to do, by a plain list and the deeds that can be undone."""

    def __init__(self, way, n, d):
        self.way, self.n, self.d = way, n, d
        self.kept = []
        self.deeds = []

    def near(self, order):
        return sorted(one for one in self.kept if far(self.way, order, one) < self.d)

    def come(self, order):
        near = self.near(order)
        if not near:
            self.kept.append(order)
            self.deeds.append(("taken", order))
        return near

    def drop(self, order):
        if order not in self.kept:
            return NoFit
        self.kept.remove(order)
        self.deeds.append(("dropped", order))
        return None

    def undo(self):
        if not self.deeds:
            return NoNumber
        deed, order = self.deeds.pop()
        if deed == "taken":
            self.kept.remove(order)
        else:
            self.kept.append(order)
        return None

    def more(self):
        return [order for order in orders(self.n) if not self.near(order)]


def with_orders(way, n, d, some):
    """A Lister that has taken all of these."""
    lister = Lister(way, n, d)
    for order in some:
        if lister.come(order) != []:
            raise AssertionError(f"{order} was not taken")
    return lister


class ListerAsking(Asking):

    def assert_as(self, plain, lister):
        """The Lister tells all that the plain one has."""
        self.assert_told(sorted(plain.kept), lister.orders())
        worth = least_far(plain.way, plain.kept) if len(plain.kept) > 1 else None
        self.assert_told(worth, lister.least_apart())
        if plain.n <= 6:
            more = plain.more()
            self.assert_told(more[0] if more else None, lister.first_more())
            self.assert_told(len(more), lister.how_many_more())

    def do_both(self, plain, lister, deed, order):
        """The same deed of both, which tells the same."""
        if deed == "come":
            self.assert_told(plain.come(order), lister.come(list(order)))
            return
        given = [list(order)] if deed == "drop" else []
        refusal = getattr(plain, deed)(*given)
        if refusal is None:
            self.assertIsNone(getattr(lister, deed)(*given))
        else:
            self.assert_refused(refusal, getattr(lister, deed), *given)


class Deeds(ListerAsking):

    def test_by_hand(self):
        lister = Lister("swap", 3, 2)
        self.assert_told([], lister.orders())
        self.assert_told(None, lister.least_apart())
        self.assert_told([0, 1, 2], lister.first_more())
        self.assert_told(6, lister.how_many_more())
        self.assert_told([], lister.come([2, 0, 1]))
        self.assert_told(None, lister.least_apart())
        self.assert_told([], lister.come([0, 1, 2]))
        self.assert_told([[0, 1, 2], [2, 0, 1]], lister.orders())
        self.assert_told(2, lister.least_apart())
        self.assert_told([[0, 1, 2], [2, 0, 1]], lister.come([0, 2, 1]))
        self.assert_told([[0, 1, 2]], lister.come([0, 1, 2]))
        self.assert_told([1, 2, 0], lister.first_more())
        self.assert_told(1, lister.how_many_more())
        self.assertIsNone(lister.drop([0, 1, 2]))
        self.assert_told([[2, 0, 1]], lister.orders())
        self.assertIsNone(lister.undo())
        self.assert_told([[0, 1, 2], [2, 0, 1]], lister.orders())
        self.assertIsNone(lister.undo())
        self.assert_told([[2, 0, 1]], lister.orders())
        self.assertIsNone(lister.undo())
        self.assert_told([], lister.orders())
        self.assert_refused(NoNumber, lister.undo)

    def test_rows_of_deeds_against_a_plain_list(self):
        chance = random.Random("deeds")
        words = ["come"] * 5 + ["drop"] * 3 + ["undo"] * 3
        for way in WAYS:
            for n in range(1, 5):
                for d in range(1, greatest(way, n) + 2):
                    plain, lister = Plain(way, n, d), Lister(way, n, d)
                    for _ in range(40):
                        order = chance.sample(range(n), n)
                        if plain.kept and chance.random() < 0.5:
                            order = chance.choice(plain.kept)
                        self.do_both(plain, lister, chance.choice(words), order)
                        self.assert_as(plain, lister)

    def test_rows_of_deeds_of_many_things(self):
        chance = random.Random("many")
        words = ["come"] * 6 + ["drop"] * 2 + ["undo"] * 3
        for way in WAYS:
            for n in range(5, 9):
                for d in (1, 3, n - 1):
                    plain, lister = Plain(way, n, d), Lister(way, n, d)
                    for _ in range(40):
                        order = chance.sample(range(n), n)
                        if plain.kept and chance.random() < 0.5:
                            order = list(chance.choice(plain.kept))
                            at = chance.randrange(n - 1)
                            order[at:at + 2] = order[at + 1], order[at]
                        self.do_both(plain, lister, chance.choice(words), order)
                        self.assert_told(sorted(plain.kept), lister.orders())
                    if n < 7:
                        self.assert_as(plain, lister)

    def test_much_that_is_undone(self):
        chance = random.Random("undo")
        for way in WAYS:
            plain, lister = Plain(way, 4, 2), Lister(way, 4, 2)
            for _ in range(20):
                for _ in range(30):
                    order = chance.choice(plain.kept) if plain.kept else chance.sample(range(4), 4)
                    if chance.random() < 0.6:
                        order = chance.sample(range(4), 4)
                    self.do_both(plain, lister, chance.choice(["come", "drop"]), order)
                for _ in range(chance.randrange(10, 30)):
                    self.do_both(plain, lister, "undo", None)
                    self.assert_told(sorted(plain.kept), lister.orders())
            while plain.deeds:
                self.do_both(plain, lister, "undo", None)
                self.assert_told(sorted(plain.kept), lister.orders())
            self.do_both(plain, lister, "undo", None)

    def test_the_first_that_would_be_taken_each_time_makes_the_first_list(self):
        for way in WAYS:
            for n, d in itertools.product(range(1, 6), (1, 2, 3, 4)):
                lister = Lister(way, n, d)
                order = lister.first_more()
                while order is not None and len(lister.orders()) < 120:
                    self.assert_told([], lister.come(order))
                    order = lister.first_more()
                self.assert_told(first_apart(way, n, d), lister.orders())
                self.assert_told(0, lister.how_many_more())

    def test_just_d_far_is_not_nearer(self):
        for way in WAYS:
            for n in range(2, 9):
                most = greatest(way, n)
                one, other = straight(n), straight(n)[1:] + [0]
                if way == "swap" or way == "shift":
                    other = straight(n)[::-1]
                self.assertEqual(most, far(way, one, other))
                lister = with_orders(way, n, most, [one])
                self.assert_told([], lister.come(other))
                self.assert_told(most, lister.least_apart())
                lister = with_orders(way, n, most + 1, [one])
                self.assert_told([one], lister.come(other))
                lister = with_orders(way, n, LARGE, [one])
                self.assert_told([one], lister.come(other))


class Undo(ListerAsking):

    def test_what_came_and_was_not_taken_does_not_count(self):
        lister = with_orders("swap", 3, 2, [[0, 1, 2], [1, 2, 0]])
        for order in ([0, 1, 2], [0, 2, 1], [1, 0, 2]):
            self.assertNotEqual([], lister.come(order))
        lister.undo()
        self.assert_told([[0, 1, 2]], lister.orders())

    def test_what_was_undone_does_not_count(self):
        lister = with_orders("spot", 3, 2, [[0, 1, 2], [1, 2, 0], [2, 0, 1]])
        lister.drop([1, 2, 0])
        for worth in ([[0, 1, 2], [1, 2, 0], [2, 0, 1]], [[0, 1, 2], [1, 2, 0]], [[0, 1, 2]], []):
            lister.undo()
            self.assert_told(worth, lister.orders())
        self.assert_refused(NoNumber, lister.undo)
        self.assert_told([], lister.orders())
        self.assert_told([], lister.come([2, 1, 0]))
        lister.undo()
        self.assert_refused(NoNumber, lister.undo)

    def test_nothing_is_left(self):
        for way in WAYS:
            for n in range(1, 9):
                lister = Lister(way, n, 1)
                for _ in range(3):
                    self.assert_refused(NoNumber, lister.undo)
                lister.come(straight(n))
                lister.come(straight(n))
                lister.undo()
                self.assert_refused(NoNumber, lister.undo)

    def test_a_drop_is_undone_where_something_else_was_taken(self):
        lister = with_orders("swap", 3, 2, [[0, 1, 2]])
        lister.drop([0, 1, 2])
        self.assert_told([], lister.come([1, 0, 2]))
        lister.undo()
        lister.undo()
        self.assert_told([[0, 1, 2]], lister.orders())


class Edges(ListerAsking):

    def test_one_thing(self):
        for way in WAYS:
            for d in (1, 2, LARGE):
                lister = Lister(way, 1, d)
                self.assert_told([0], lister.first_more())
                self.assert_told(1, lister.how_many_more())
                self.assert_told([], lister.come([0]))
                self.assert_told([[0]], lister.come([0]))
                self.assert_told(None, lister.first_more())
                self.assert_told(0, lister.how_many_more())
                self.assert_told(None, lister.least_apart())

    def test_eight_things_and_nine(self):
        for way in WAYS:
            some = [order for order in some_orders(8) if order != straight(8)]
            lister = Lister(way, 8, 1)
            for order in some:
                lister.come(order)
            unlike = [list(order) for order in sorted({tuple(order) for order in some})]
            self.assert_told(unlike, lister.orders())
            self.assert_told(least_far(way, unlike), lister.least_apart())
            self.assert_refused(NoNumber, Lister, way, 9, 1)

    def test_six_things_and_seven_where_more_is_asked(self):
        for way in WAYS:
            for d in (1, 3, 5):
                plain, lister = Plain(way, 6, d), Lister(way, 6, d)
                for order in some_orders(6):
                    self.assert_told(plain.come(order), lister.come(order))
                self.assert_as(plain, lister)
            for n in (7, 8):
                for some in ([], [straight(n)]):
                    lister = with_orders(way, n, 3, some)
                    self.assert_refused(TooMany, lister.first_more)
                    self.assert_refused(TooMany, lister.how_many_more)

    def test_one_hundred_and_twenty_orders_and_one_more(self):
        for way in WAYS:
            some = orders(6)[:120]
            lister = with_orders(way, 6, 1, some)
            for order in (orders(6)[120], some[0], straight(6)[::-1]):
                self.assert_refused(TooMany, lister.come, order)
            self.assert_told(some, lister.orders())
            # Asked as if there were room.
            self.assert_told([1, 0, 2, 3, 4, 5], lister.first_more())
            self.assert_told(600, lister.how_many_more())
            for order in orders(5)[:3] + orders(7)[:3]:
                self.assert_refused(NoFit, lister.come, order)
            lister.undo()
            self.assert_told(some[:119], lister.orders())
            self.assert_told([some[3]], lister.come(some[3]))
            self.assert_told([], lister.come(orders(6)[500]))
            self.assert_refused(TooMany, lister.come, some[119])
            lister.drop(some[7])
            self.assert_told([], lister.come(some[119]))
            self.assert_told(sorted(some[:7] + some[8:] + [orders(6)[500]]), lister.orders())
            lister.undo()
            lister.undo()
            self.assert_told(sorted(some[:119] + [orders(6)[500]]), lister.orders())

    def test_all_orders_of_five_things(self):
        lister = with_orders("spot", 5, 1, orders(5)[::-1])
        self.assert_told(orders(5), lister.orders())
        self.assert_told(None, lister.first_more())
        self.assert_told(0, lister.how_many_more())
        self.assert_told(2, lister.least_apart())

    def test_not_all_are_gone_through(self):
        for way in WAYS:
            some = some_orders(8)[:3]
            steps_run(100000, Lister, way, 8, 2)
            lister = with_orders(way, 8, 2, some)
            for asked in (lister.come, straight(8)[::-2] + straight(8)[::2]), (lister.orders,), (lister.least_apart,):
                steps_run(20000, *asked)

    def test_each_method_stands_in_the_class_itself(self):
        for name in METHODS:
            self.assertIn(name, vars(Lister))


class Refused(ListerAsking):

    def test_no_way_ahead_of_no_number(self):
        for way in NO_WAYS:
            for n, d in ((3, 1), (0, 1), (9, 1), (True, 1), (3, 0), (None, None)):
                self.assert_refused(NoWay, Lister, way, n, d)

    def test_no_number(self):
        for way in WAYS:
            for n in NO_SIZES:
                for d in (1, 0, None):
                    self.assert_refused(NoNumber, Lister, way, n, d)
            for d in NO_DISTANCES:
                for n in range(1, 9):
                    self.assert_refused(NoNumber, Lister, way, n, d)

    def test_no_order_ahead_of_all(self):
        full = with_orders("swap", 6, 1, orders(6)[:120])
        for lister in (Lister("swap", 2, 1), with_orders("shift", 2, 1, [[0, 1]]), full):
            for thing in NO_ORDERS:
                self.assert_refused(NoOrder, lister.come, thing)
                self.assert_refused(NoOrder, lister.drop, thing)

    def test_no_fit_of_other_many_things(self):
        for way in WAYS:
            for n in range(1, 9):
                lister = with_orders(way, n, 1, [straight(n)])
                for m in range(1, 13):
                    if m != n:
                        self.assert_refused(NoFit, lister.come, straight(m))
                        self.assert_refused(NoFit, lister.drop, straight(m))
                self.assert_told([straight(n)], lister.orders())

    def test_no_fit_of_what_is_not_there(self):
        lister = with_orders("swap", 3, 1, [[0, 1, 2], [2, 1, 0]])
        for order in ([0, 2, 1], [1, 0, 2]):
            self.assert_refused(NoFit, lister.drop, order)
        lister.drop([2, 1, 0])
        self.assert_refused(NoFit, lister.drop, [2, 1, 0])
        lister.undo()
        lister.drop([2, 1, 0])
        self.assert_told([[0, 1, 2]], lister.orders())

    def test_what_is_refused_changes_nothing(self):
        for way in WAYS:
            plain, lister = Plain(way, 3, 2), Lister(way, 3, 2)
            for deed, order in (
                ("come", [0, 1, 2]), ("come", [2, 0, 1]), ("drop", [0, 1, 2]), ("come", [1, 2, 0]), ("undo", None),
                ("come", [2, 1, 0]), ("undo", None), ("undo", None), ("drop", [0, 1, 2]), ("undo", None),
                ("undo", None), ("undo", None), ("undo", None), ("come", [0, 2, 1]),
            ):
                for thing in (None, True, [0, 1, True], (0, 1, 2), [0, 1], [0, 1, 2, 3], straight(12)):
                    refusal = NoFit if thing in ([0, 1], [0, 1, 2, 3], straight(12)) else NoOrder
                    self.assert_refused(refusal, lister.come, thing)
                    self.assert_refused(refusal, lister.drop, thing)
                for absent in orders(3):
                    if absent not in plain.kept:
                        self.assert_refused(NoFit, lister.drop, absent)
                if not plain.deeds:
                    self.assert_refused(NoNumber, lister.undo)
                self.assert_as(plain, lister)
                self.do_both(plain, lister, deed, order)
                self.assert_as(plain, lister)


class Own(ListerAsking):

    def test_told_lists(self):
        lister = with_orders("swap", 3, 2, [[2, 0, 1], [0, 1, 2]])
        self.assert_own(lister.orders)
        self.assert_own(lister.first_more)
        self.assert_own(lister.how_many_more)
        self.assert_own(lister.least_apart)
        self.assert_own(lister.come, [0, 2, 1])
        self.assert_own(lister.come, [2, 0, 1])
        self.assert_told([[0, 1, 2], [2, 0, 1]], lister.orders())

    def test_what_is_handed_in_is_kept_as_a_copy(self):
        lister = Lister("swap", 3, 1)
        order = [2, 0, 1]
        told = lister.come(order)
        self.assert_told([2, 0, 1], order)
        order.reverse()
        spoil(told)
        self.assert_told([[2, 0, 1]], lister.orders())
        order[:] = [2, 0, 1]
        lister.drop(order)
        spoil(order)
        lister.undo()
        self.assert_told([[2, 0, 1]], lister.orders())

    def test_what_is_told_is_not_what_is_kept(self):
        lister = with_orders("swap", 3, 1, [[0, 1, 2], [2, 1, 0]])
        for told in (lister.orders(), lister.come([2, 1, 0]), lister.come([0, 1, 2])):
            for order in told:
                spoil(order)
            spoil(told)
        first = lister.first_more()
        lister.come(first)
        spoil(first)
        self.assert_told([[0, 1, 2], [0, 2, 1], [2, 1, 0]], lister.orders())
        lister.undo()
        lister.undo()
        self.assert_told([[0, 1, 2]], lister.orders())

    def test_two_listers_have_nothing_in_common(self):
        one, other = Lister("swap", 3, 1), Lister("swap", 3, 1)
        one.come([0, 1, 2])
        self.assert_told([], other.orders())
        self.assert_refused(NoNumber, other.undo)
        twin = copy.deepcopy(one)
        one.undo()
        self.assert_told([[0, 1, 2]], twin.orders())


if __name__ == "__main__":
    unittest.main()
