"""[21] and [22]: polls, the middle of a poll, its pairs and its rings."""

import itertools
import random
import unittest

from farorders.errors import NoFit, NoOrder, NoWay, TooMany
from farorders.middle import middle_of, pair_sum, pairs_ahead, poll_sum, ring_of
from tests.helper import (
    ALIKE_LISTS, NO_ORDER_LISTS, NO_ORDERS, NO_WAYS, WAYS, Asking, far, orders, some_orders, steps_run, straight
)

# What is no list of one to twenty orders of as many things.
NO_POLLS = NO_ORDER_LISTS + [[], [[0]] * 21, [[0, 1]] * 21, orders(4)[:21], orders(5), [straight(12)] * 21]


def drawn(seed, n, many):
    """A poll of so many orders of n things, the same for the same seed."""
    chance = random.Random(f"{seed} {n} {many}")
    return [chance.sample(range(n), n) for _ in range(many)]


def some_polls(n):
    """Polls of one order, of alike ones, of few and of many."""
    last = straight(n)[::-1]
    polls = [[straight(n)], [last], [last] * 20, [straight(n), last], some_orders(n), drawn("twice", n, 4) * 2]
    return polls + [drawn("poll", n, many) for many in (1, 2, 3, 4, 5, 8, 19, 20)]


def sum_of(way, poll, order):
    """How far an order is from a poll, straight from the words of the document."""
    return sum(far(way, order, one) for one in poll)


def middle_by_hand(way, poll):
    """The least sum with the first order that has it, by going through all."""
    return min((sum_of(way, poll, order), order) for order in orders(len(poll[0])))


def middle_from_the_front(poll):
    """A second reckoning by swap: for each set of things its best beginning, place by place."""
    n = len(poll[0])
    places = [[order.index(thing) for thing in range(n)] for order in poll]
    best = {frozenset(): (0, [])}
    for _ in range(n):
        longer = {}
        for used, (cost, start) in best.items():
            for thing in set(range(n)) - used:
                more = sum(seats[thing] < seats[early] for seats in places for early in used)
                candidate = (cost + more, start + [thing])
                key = used | {thing}
                longer[key] = min(longer.get(key, candidate), candidate)
        best = longer
    return best[frozenset(range(n))]


def ahead(poll, i, j):
    """How many orders of a poll have thing i ahead of thing j."""
    return sum(order.index(i) < order.index(j) for order in poll)


def ring_by_hand(poll):
    """The first of the rings of the fewest things that begin with their least, by going through all."""
    n = len(poll[0])
    for many in range(3, n + 1):
        for ring in itertools.permutations(range(n), many):
            if ring[0] == min(ring):
                if all(2 * ahead(poll, a, b) > len(poll) for a, b in zip(ring, ring[1:] + ring[:1])):
                    return list(ring)
    return None


def poll_with(n, edges):
    """A poll in which just these pairs (a, b) have a ahead of b in more than half, and all others in just half."""
    poll = []
    for a, b in edges:
        others = [thing for thing in range(n) if thing not in (a, b)]
        poll += [[a, b] + others, others[::-1] + [a, b]]
    return poll


def round_edges(things):
    """The pairs of a ring: each with the next, the last with the first."""
    return list(zip(things, things[1:] + things[:1]))


class PollSum(Asking):

    def test_by_hand(self):
        poll = [[0, 1, 2], [2, 1, 0], [0, 1, 2]]
        self.assert_told(3, poll_sum("swap", poll, [0, 1, 2]))
        self.assert_told(6, poll_sum("swap", poll, [2, 1, 0]))
        self.assert_told(2, poll_sum("spot", poll, [0, 1, 2]))
        self.assert_told(8, poll_sum("spot", poll, [1, 2, 0]))
        self.assert_told(2, poll_sum("shift", poll, [0, 1, 2]))
        self.assert_told(0, poll_sum("shift", [[0]], [0]))

    def test_straight_from_the_words(self):
        for way in WAYS:
            for n in range(1, 13):
                for poll in some_polls(n):
                    for order in some_orders(n):
                        self.assert_told(sum_of(way, poll, order), poll_sum(way, poll, order))

    def test_alike_orders_count_each(self):
        for way in WAYS:
            for n in (2, 7, 12):
                one, other = straight(n), straight(n)[::-1]
                self.assert_told(20 * far(way, one, other), poll_sum(way, [one] * 20, other))
                self.assert_told(0, poll_sum(way, [one] * 20, one))


class MiddleOf(Asking):

    def test_by_hand(self):
        poll = [[0, 1, 2], [1, 2, 0], [2, 0, 1]]
        self.assert_told((4, [0, 1, 2]), middle_of("swap", poll))
        self.assert_told((6, [0, 1, 2]), middle_of("spot", poll))
        self.assert_told((3, [0, 2, 1]), middle_of("shift", [[0, 2, 1], [1, 2, 0], [2, 0, 1]]))
        self.assert_told((3, [0, 1, 2]), middle_of("swap", [[2, 1, 0], [0, 1, 2]]))
        self.assert_told((1, [1, 0, 2]), middle_of("swap", [[1, 0, 2], [1, 2, 0], [1, 0, 2]]))
        for way in WAYS:
            self.assert_told((0, [0]), middle_of(way, [[0]]))
            self.assert_told((0, [0]), middle_of(way, [[0]] * 20))

    def test_gone_through_for_few_things(self):
        for way in WAYS:
            for n in range(1, 6):
                for poll in some_polls(n):
                    self.assert_told(middle_by_hand(way, poll), middle_of(way, poll))

    def test_six_things(self):
        for way in WAYS:
            for poll in (drawn("six", 6, 3), drawn("six", 6, 8)):
                self.assert_told(middle_by_hand(way, poll), middle_of(way, poll))

    def test_by_swap_seven_things_gone_through(self):
        for many in (2, 5):
            poll = drawn("seven", 7, many)
            self.assert_told(middle_by_hand("swap", poll), middle_of("swap", poll))

    def test_by_swap_against_a_second_reckoning(self):
        for n in range(1, 10):
            for poll in some_polls(n) + [poll_with(n, round_edges(straight(n)))] * (n > 2):
                self.assert_told(middle_from_the_front(poll), middle_of("swap", poll))

    def test_a_poll_of_one_order_and_of_alike_ones(self):
        for way in WAYS:
            for n in range(1, 10 if way == "swap" else 7):
                for order in some_orders(n):
                    self.assert_told((0, order), middle_of(way, [order]))
                    self.assert_told((0, order), middle_of(way, [order] * 20))

    def test_of_several_the_first(self):
        for n in range(2, 10):
            both = [straight(n)[::-1], straight(n)]
            # Each order has each pair just once as one of these has it.
            self.assert_told((n * (n - 1) // 2, straight(n)), middle_of("swap", both))
        for n in range(2, 7):
            self.assert_told((n, straight(n)), middle_of("spot", [straight(n)[1:] + [0], straight(n)]))

    def test_the_sum_is_that_of_the_order(self):
        for way in WAYS:
            for n in range(1, 7):
                for poll in some_polls(n):
                    least, order = middle_of(way, poll)
                    self.assert_told(least, poll_sum(way, poll, order))
                    for other in some_orders(n) + poll:
                        self.assertLessEqual(least, poll_sum(way, poll, other))

    def test_how_many_things(self):
        for n in range(7, 13):
            for way in ("spot", "shift"):
                self.assert_refused(TooMany, middle_of, way, [straight(n)])
                self.assert_refused(TooMany, middle_of, way, [straight(n)] * 20)
        for n in range(10, 13):
            self.assert_refused(TooMany, middle_of, "swap", [straight(n)])
            self.assert_refused(TooMany, middle_of, "swap", drawn("many", n, 20))

    def test_not_all_are_gone_through_by_swap(self):
        # There are 362880 orders of nine things.
        steps_run(1500000, middle_of, "swap", drawn("nine", 9, 20))


class PairsAhead(Asking):

    def test_by_hand(self):
        poll = [[0, 1, 2], [2, 0, 1], [0, 2, 1], [0, 1, 2]]
        self.assert_told({(0, 1): 4, (0, 2): 3, (1, 2): 2}, pairs_ahead(poll))
        self.assert_told({}, pairs_ahead([[0]]))
        self.assert_told({(0, 1): 0}, pairs_ahead([[1, 0]] * 20))

    def test_straight_from_the_words(self):
        for n in range(1, 13):
            for poll in some_polls(n):
                worth = {(i, j): ahead(poll, i, j) for i, j in itertools.combinations(range(n), 2)}
                self.assert_told(worth, pairs_ahead(poll))


class PairSum(Asking):

    def test_by_hand(self):
        self.assert_told(0 + 1 + 2, pair_sum([[0, 1, 2], [2, 0, 1], [0, 2, 1], [0, 1, 2]]))
        self.assert_told(3, pair_sum([[0, 1, 2], [1, 2, 0], [2, 0, 1]]))
        self.assert_told(0, pair_sum([[0]] * 20))
        self.assert_told(66, pair_sum([straight(12), straight(12)[::-1]]))

    def test_straight_from_the_words(self):
        for n in range(1, 13):
            for poll in some_polls(n):
                pairs = itertools.combinations(range(n), 2)
                self.assert_told(sum(min(ahead(poll, i, j), ahead(poll, j, i)) for i, j in pairs), pair_sum(poll))

    def test_no_order_is_nearer(self):
        for n in range(1, 6):
            for poll in some_polls(n):
                least = min(sum_of("swap", poll, order) for order in orders(n))
                self.assertLessEqual(pair_sum(poll), least)


class RingOf(Asking):

    def test_by_hand(self):
        self.assert_told([0, 1, 2], ring_of([[0, 1, 2], [1, 2, 0], [2, 0, 1]]))
        self.assert_told([0, 2, 1], ring_of([[0, 2, 1], [2, 1, 0], [1, 0, 2]]))
        self.assert_told([0, 1, 2, 3], ring_of([[0, 1, 2, 3], [1, 2, 3, 0], [2, 3, 0, 1], [3, 0, 1, 2]]))
        self.assert_told([1, 2, 3], ring_of([[0, 1, 2, 3], [0, 2, 3, 1], [0, 3, 1, 2]]))
        self.assert_told(None, ring_of([[0]]))
        self.assert_told(None, ring_of([[0, 1], [1, 0]]))
        self.assert_told(None, ring_of([[0, 1], [1, 0], [1, 0]]))

    def test_just_half_is_not_more_than_half(self):
        turning = [[0, 1, 2], [1, 2, 0], [2, 0, 1]]
        self.assert_told([0, 1, 2], ring_of(turning * 6))
        # 0 is ahead of 1 in two of these four.
        self.assert_told(None, ring_of(turning + [[1, 2, 0]]))
        self.assert_told(None, ring_of(turning * 2 + [[1, 0, 2], [1, 2, 0]]))
        self.assert_told([0, 1, 2], ring_of(turning * 2 + [[1, 0, 2]]))

    def test_against_all_rings(self):
        for n in range(1, 7):
            polls = some_polls(n) + [drawn(seed, n, many) for seed in range(15) for many in (3, 4, 6)]
            for poll in polls:
                self.assert_told(ring_by_hand(poll), ring_of(poll))

    def test_against_all_rings_where_most_pairs_are_even(self):
        chance = random.Random("edges")
        long = 0
        for _ in range(400):
            n = chance.choice([5, 6])
            pairs = chance.sample(list(itertools.combinations(range(n), 2)), chance.choice([6, 7, 8]))
            edges = [chance.choice([(i, j), (j, i)]) for i, j in pairs]
            poll = poll_with(n, edges)
            worth = ring_by_hand(poll)
            self.assert_told(worth, ring_of(poll))
            long += worth is not None and len(worth) > 3
        self.assertGreater(long, 10)

    def test_rings_of_three_and_of_more_things(self):
        for n in range(3, 10):
            for many in range(3, n + 1):
                for things in (straight(many), straight(many)[::-1], list(range(n - many, n))):
                    turned = things[things.index(min(things)):] + things[:things.index(min(things))]
                    self.assert_told(turned, ring_of(poll_with(n, round_edges(things))))
                    # Without its last pair it is no ring.
                    self.assert_told(None, ring_of(poll_with(n, round_edges(things)[:-1])))

    def test_the_fewest_things_ahead_of_the_first(self):
        edges = round_edges([0, 1, 2, 3]) + round_edges([4, 6, 5])
        self.assert_told([4, 6, 5], ring_of(poll_with(7, edges)))
        self.assert_told([4, 6, 5], ring_of(poll_with(9, edges)))

    def test_of_the_fewest_the_first(self):
        self.assert_told([0, 3, 1], ring_of(poll_with(7, round_edges([4, 6, 5]) + round_edges([1, 0, 3]))))
        edges = [(0, 1), (0, 2), (1, 4), (2, 3), (3, 0), (4, 0)]
        self.assert_told([0, 1, 4], ring_of(poll_with(5, edges)))
        edges = [(0, 2), (2, 4), (2, 3), (3, 0), (4, 0)]
        self.assert_told([0, 2, 3], ring_of(poll_with(5, edges)))
        # The first thing is in a ring of four only; two of three begin with 1.
        edges = [(0, 1), (1, 2), (2, 5), (5, 0), (2, 4), (4, 1), (2, 3), (3, 1)]
        self.assert_told([1, 2, 3], ring_of(poll_with(6, edges)))

    def test_it_begins_with_its_least_thing(self):
        for n in range(3, 10):
            for many in (3, 5, 7, 9, 11):
                ring = ring_of(drawn("least", n, many))
                if ring is not None:
                    self.assertEqual(ring[0], min(ring))

    def test_where_there_is_none_the_least_sum_is_the_pair_sum(self):
        without = 0
        for n in range(1, 10):
            for poll in some_polls(n) + [drawn(seed, n, many) for seed in range(3) for many in (3, 4)]:
                if ring_of(poll) is None:
                    self.assert_told(pair_sum(poll), middle_of("swap", poll)[0])
                    without += 1
                else:
                    self.assertGreater(middle_of("swap", poll)[0], pair_sum(poll))
        self.assertGreater(without, 50)

    def test_nine_things_and_ten(self):
        turning = [straight(9)[k:] + straight(9)[:k] for k in range(9)]
        self.assert_told([0, 1, 5], ring_of(turning))
        for n in range(10, 13):
            for poll in ([straight(n)], drawn("many", n, 20)):
                self.assert_refused(TooMany, ring_of, poll)

    def test_not_all_are_gone_through(self):
        steps_run(200000, ring_of, drawn("nine", 9, 20))
        steps_run(200000, ring_of, poll_with(9, round_edges(straight(9))))
        steps_run(200000, ring_of, [straight(9)] * 20)


class Refused(Asking):

    def test_no_order_ahead_of_all(self):
        for thing in NO_POLLS:
            for function in (pairs_ahead, pair_sum, ring_of):
                self.assert_refused(NoOrder, function, thing)
            for way in ("swap", "shift", "no way", None):
                self.assert_refused(NoOrder, middle_of, way, thing)
                self.assert_refused(NoOrder, poll_sum, way, thing, [0, 1])
                self.assert_refused(NoOrder, poll_sum, way, thing, straight(12))
        for thing in NO_ORDERS:
            for way in ("spot", "no way", None):
                for poll in ([[0, 1]], [straight(12)], [[0]] * 20):
                    self.assert_refused(NoOrder, poll_sum, way, poll, thing)

    def test_twenty_orders_and_one_more(self):
        for n in (1, 3, 6):
            for way in WAYS:
                self.assert_told((0, straight(n)), middle_of(way, [straight(n)] * 20))
                self.assert_refused(NoOrder, middle_of, way, [straight(n)] * 21)
                self.assert_refused(NoOrder, poll_sum, way, [straight(n)] * 21, straight(n))
        for n in (10, 12):
            # So many orders are no poll: that is refused ahead of the many things.
            self.assert_refused(NoOrder, middle_of, "swap", [straight(n)] * 21)
            self.assert_refused(NoOrder, ring_of, [straight(n)] * 21)

    def test_alike_orders_are_a_poll(self):
        for poll in ALIKE_LISTS:
            order = poll[0]
            self.assert_told(sum_of("spot", poll, order), poll_sum("spot", poll, order))
            self.assertIsInstance(pairs_ahead(poll), dict)

    def test_no_way_ahead_of_no_fit_and_too_many(self):
        for way in NO_WAYS:
            for poll in ([[1, 0]], [straight(7)], [straight(12)] * 20):
                self.assert_refused(NoWay, middle_of, way, poll)
                for order in ([0, 1], straight(7), straight(12)):
                    self.assert_refused(NoWay, poll_sum, way, poll, order)

    def test_no_fit(self):
        for way in WAYS:
            for n, m in itertools.product(range(1, 13), repeat=2):
                if n != m:
                    self.assert_refused(NoFit, poll_sum, way, [straight(n), straight(n)], straight(m))


class Own(Asking):

    def test_told_lists_and_dicts(self):
        for n in (1, 3, 6):
            for poll in ([straight(n)], drawn("own", n, 5), some_orders(n)):
                for way in WAYS:
                    self.assert_own(middle_of, way, poll)
                    self.assert_own(poll_sum, way, poll, straight(n))
                self.assert_own(pairs_ahead, poll)
                self.assert_own(pair_sum, poll)
        self.assert_own(ring_of, [[0, 1, 2], [1, 2, 0], [2, 0, 1]])
        self.assert_own(middle_of, "swap", [straight(9)])

    def test_an_order_of_the_poll_is_told_as_a_new_one(self):
        for way in WAYS:
            poll = [[1, 0, 2]]
            least, order = middle_of(way, poll)
            order.append(7)
            self.assert_told([[1, 0, 2]], poll)
            self.assert_told((0, [1, 0, 2]), middle_of(way, poll))


if __name__ == "__main__":
    unittest.main()
