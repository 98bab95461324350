"""[1], [2] and [3]: what is promised over the whole program, and the interface."""

import ast
import importlib
import inspect
import itertools
import os
import pathlib
import subprocess
import sys
import unittest

from farorders.apart import first_apart, first_parting, lies_apart, longest_apart
from farorders.bounds import best_bound, bounds_by_rounds, most_by_places
from farorders.desk import Desk
from farorders.lister import Lister
from farorders.made import even_orders, lists_beside, orders_by_rests, ring_orders
from farorders.middle import middle_of, pair_sum, poll_sum, ring_of
from farorders.nearest import led_back, nearest_of, not_sure
from farorders.orders import how_far, order_behind
from farorders.texts import read_orders, show_order, show_orders
from farorders.walks import short_walk, steps_between, walk_end
from farorders.within import all_within, count_at, count_within
from tests.helper import WAYS, Asking, far, greatest, orders, some_orders, straight

ROOT = pathlib.Path(__file__).resolve().parent.parent

INTERFACE = {
    "orders": ["is_order(thing)", "back_of(order)", "order_behind(first, second)", "how_far(way, one, other)"],
    "walks": [
        "walk_end(order, walk)", "short_walk(one, other)", "rounds_between(one, other)", "steps_between(one, other)",
    ],
    "within": ["count_within(way, n, r)", "count_at(way, n, r)", "all_within(way, order, r)"],
    "apart": [
        "lies_apart(way, n, d, thing)", "longest_apart(way, n, d)", "first_apart(way, n, d)",
        "is_parting(way, n, d, thing)", "first_parting(way, n, d)",
    ],
    "made": [
        "side_by_side(one, other)", "lists_beside(some, others)", "even_orders(n)", "orders_by_rests(n, d)",
        "ring_orders(n)",
    ],
    "nearest": [
        "nearest_of(way, order, orders)", "led_back(way, order, orders, e)", "not_sure(way, orders, e)",
        "shows_not_sure(way, orders, e, thing)",
    ],
    "bounds": ["bounds_by_rounds(way, n, d)", "most_by_places(n, d)", "best_bound(way, n, d)"],
    "middle": [
        "poll_sum(way, poll, order)", "middle_of(way, poll)", "pairs_ahead(poll)", "pair_sum(poll)", "ring_of(poll)",
    ],
    "lister": ["Lister(way, n, d)"],
    "texts": ["show_order(order)", "show_orders(orders)", "read_order(text)", "read_orders(text)"],
    "desk": ["Desk()"],
}

METHODS = {
    Lister: [
        "come(self, order)", "drop(self, order)", "undo(self)", "orders(self)", "least_apart(self)", "first_more(self)",
        "how_many_more(self)",
    ],
    Desk: ["say(self, row)"],
}

# One line of answers from much of the program, asked in a process of its own.
MUCH = """
from farorders.apart import first_parting, longest_apart
from farorders.desk import Desk
from farorders.middle import middle_of, pairs_ahead, ring_of
from farorders.nearest import not_sure
desk = Desk()
poll = [[0, 1, 2, 3], [1, 2, 3, 0], [2, 3, 0, 1], [3, 0, 1, 2]]
print([longest_apart(way, 4, d) for way in ("swap", "spot", "shift") for d in (2, 3)])
print([first_parting(way, 4, 3) for way in ("swap", "spot", "shift")])
print([middle_of(way, poll) for way in ("swap", "spot", "shift")], pairs_ahead(poll), ring_of(poll))
print(not_sure("swap", poll, 2))
for row in ("lister spot 4 3", "come 2 0 1 3", "first", "come 0 1 2 3", "room", "list", "near 1 0 2 3", "middle"):
    print(desk.say(row))
"""


def renamed(name, some):
    """The orders of a list with each thing called otherwise."""
    return [order_behind(name, order) for order in some]


def by_exchanges(start):
    """How far each order is from one, found step by step by exchanges of neighbours."""
    steps = {tuple(start): 0}
    edge = [tuple(start)]
    for order in edge:
        for place in range(len(start) - 1):
            changed = list(order)
            changed[place:place + 2] = order[place + 1], order[place]
            if tuple(changed) not in steps:
                steps[tuple(changed)] = steps[order] + 1
                edge.append(tuple(changed))
    return steps


class HowFar(Asking):

    def test_by_swap_it_is_the_shortest_way(self):
        for n in range(1, 6):
            for start in orders(n)[::7]:
                steps = by_exchanges(start)
                for order in orders(n):
                    self.assert_told(steps[tuple(order)], how_far("swap", start, order))
                    self.assert_told(steps[tuple(order)], len(short_walk(start, order)))

    def test_walks_lead_there_for_many_things(self):
        for n in range(1, 13):
            for one, other in itertools.product(some_orders(n), repeat=2):
                walk = short_walk(one, other)
                self.assert_told(other, walk_end(one, walk))
                self.assert_told(how_far("swap", one, other), len(walk))
                # Each exchange of two things sets one right at least, the last both.
                self.assertLessEqual(steps_between(one, other), max(0, how_far("spot", one, other) - 1))

    def test_things_called_otherwise(self):
        for n in range(1, 13):
            some = some_orders(n)
            for name in some_orders(n):
                for way in WAYS:
                    for one, other in itertools.product(some, repeat=2):
                        called = renamed(name, [one, other])
                        self.assert_told(how_far(way, one, other), how_far(way, *called))

    def test_things_called_otherwise_in_later_stages(self):
        for n in (3, 5, 6):
            some = [list(order) for order in sorted({tuple(order) for order in some_orders(n)[1:]})]
            order = straight(n)[2:] + [0, 1]
            for name in some_orders(n):
                called = renamed(name, some)
                new = order_behind(name, order)
                self.assert_told(pair_sum(some), pair_sum(called))
                self.assert_told(ring_of(some) is None, ring_of(called) is None)
                for way in WAYS:
                    r, near = nearest_of(way, order, some)
                    self.assert_told((r, renamed(name, near)), nearest_of(way, new, called))
                    self.assert_told(poll_sum(way, some, order), poll_sum(way, called, new))
                    self.assert_told(middle_of(way, some)[0], middle_of(way, called)[0])
                    for e in range(4):
                        self.assert_told(not_sure(way, some, e) is None, not_sure(way, called, e) is None)
                    one, other = Lister(way, n, 2), Lister(way, n, 2)
                    for each, told in zip(some, called):
                        self.assert_told(sorted(renamed(name, one.come(each))), other.come(told))
                    self.assert_told(one.least_apart(), other.least_apart())
                    self.assert_told(one.how_many_more(), other.how_many_more())


class Counts(Asking):

    def test_as_many_as_told_lie_within(self):
        for way in WAYS:
            for n in range(1, 7):
                for order in (straight(n), straight(n)[::-1], straight(n)[1::2] + straight(n)[::2]):
                    for r in range(greatest(way, n) + 2):
                        within = all_within(way, order, r)
                        self.assert_told(len(within), count_within(way, n, r))
                        just = [one for one in within if how_far(way, one, order) == r]
                        self.assert_told(len(just), count_at(way, n, r))

    def test_those_that_would_be_taken_lie_without(self):
        for way in WAYS:
            for n in range(1, 7):
                for d in range(1, greatest(way, n) + 2):
                    lister = Lister(way, n, d)
                    everyone = lister.how_many_more()
                    lister.come(straight(n)[::-1])
                    self.assert_told(everyone - count_within(way, n, d - 1), lister.how_many_more())


class Lists(Asking):

    def assert_lies(self, way, n, d, some):
        """Any two lie so far apart by the words, as the program tells, and no bound is passed."""
        self.assertTrue(all(far(way, one, other) >= d for one, other in itertools.combinations(some, 2)))
        self.assert_told(True, lies_apart(way, n, d, some))
        self.assertLessEqual(len(some), bounds_by_rounds(way, n, d)[1])
        if n <= 6:
            self.assertLessEqual(len(some), best_bound(way, n, d)[0])
        if n <= 5:
            self.assertLessEqual(len(some), len(first_parting(way, n, d)))
        if way == "spot" and d <= n:
            self.assertLessEqual(len(some), most_by_places(n, d))

    def test_lists_of_few_things(self):
        for way in WAYS:
            for n in range(1, 5):
                for d in range(1, greatest(way, n) + 2):
                    longest = longest_apart(way, n, d)
                    self.assert_lies(way, n, d, longest)
                    self.assert_lies(way, n, d, first_apart(way, n, d))
                    self.assertLessEqual(bounds_by_rounds(way, n, d)[0], len(first_apart(way, n, d)))
                    self.assertLessEqual(len(first_apart(way, n, d)), len(longest))

    def test_lists_of_five_things(self):
        for way in WAYS:
            for d in (2, 3, 4):
                self.assert_lies(way, 5, d, first_apart(way, 5, d))

    def test_made_lists(self):
        for n in range(2, 6):
            self.assert_lies("spot", n, 3, even_orders(n))
            self.assert_lies("swap", n, 2, even_orders(n))
        for n in range(1, 13):
            self.assert_lies("spot", n, n, ring_orders(n))
        for n, d in ((4, 2), (5, 2), (6, 3), (9, 4), (12, 6)):
            self.assert_lies("shift", n, d, orders_by_rests(n, d))
        for way in WAYS:
            some, others = first_apart(way, 4, 2), first_apart(way, 3, 2)
            self.assert_lies(way, 7, 2, lists_beside(some[:10], others[:12]))

    def test_kept_lists(self):
        for way in WAYS:
            for n in (3, 4, 5, 8):
                for d in (1, 2, 3, 5):
                    lister = Lister(way, n, d)
                    for order in some_orders(n) + [straight(n)[::-2] + straight(n)[n % 2::2]]:
                        lister.come(order)
                    kept = lister.orders()
                    self.assert_lies(way, n, d, kept)
                    if len(kept) > 1:
                        self.assertGreaterEqual(lister.least_apart(), d)
                        self.assert_told(False, lies_apart(way, n, lister.least_apart() + 1, kept))


class LedBack(Asking):

    def test_an_order_with_few_errors_is_led_to_the_one_it_came_from(self):
        for way, n, d in (("swap", 4, 3), ("swap", 5, 5), ("spot", 4, 4), ("shift", 5, 3)):
            desk = Desk()
            self.assert_told("ok", desk.say(f"lister {way} {n} {d}"))
            while desk.say("first") != "none":
                self.assert_told("ok", desk.say("come " + desk.say("first")))
            some = first_apart(way, n, d)
            self.assert_told(some, read_orders(desk.say("list")))
            e = (d - 1) // 2
            self.assert_told("yes", desk.say(f"sure {e}"))
            for one in some:
                for order in all_within(way, one, e):
                    self.assert_told(("one", one), led_back(way, order, some, e))
                    answer = f"{how_far(way, one, order)}: {show_order(one)}"
                    self.assert_told(answer, desk.say("near " + show_order(order)))


class Same(Asking):

    def test_the_same_asked_again_also_in_another_process(self):
        answers = set()
        for seed in ("0", "1", "77"):
            surroundings = dict(os.environ, PYTHONPATH=str(ROOT), PYTHONHASHSEED=seed, PYTHONDONTWRITEBYTECODE="1")
            command = [sys.executable, "-c", MUCH]
            done = subprocess.run(command, env=surroundings, capture_output=True, text=True, check=True)
            answers.add(done.stdout)
        self.assertEqual(1, len(answers))
        self.assertEqual("0 1 2 3, 2 0 1 3", answers.pop().split("\n")[-4])

    def test_nothing_is_imported_but_the_package_itself(self):
        files = sorted((ROOT / "farorders").iterdir())
        self.assertEqual([], [path.name for path in files if path.suffix != ".py" and path.name != "__pycache__"])
        for path in files:
            if path.suffix == ".py":
                for node in ast.walk(ast.parse(path.read_text())):
                    self.assertNotIsInstance(node, ast.Import)
                    if isinstance(node, ast.ImportFrom):
                        self.assertTrue(node.module.startswith("farorders."))

    def test_what_one_stage_tells_another_takes_and_leaves(self):
        some = first_apart("swap", 4, 2)[:12]
        kept = [list(order) for order in some]
        lister = Lister("swap", 4, 2)
        for order in some:
            self.assert_told([], lister.come(order))
        self.assert_told(sorted(kept), lister.orders())
        self.assert_told(sorted(kept), read_orders(show_orders(lister.orders())))
        middle_of("swap", some)
        not_sure("swap", some, 1)
        ring_of(some)
        self.assert_told(kept, some)


class Interface(Asking):

    def test_all_names_and_their_arguments(self):
        for file, calls in INTERFACE.items():
            module = importlib.import_module(f"farorders.{file}")
            for call in calls:
                name = call.partition("(")[0]
                self.assertEqual(call, name + str(inspect.signature(getattr(module, name))))

    def test_the_methods_stand_in_the_classes_themselves(self):
        for kind, calls in METHODS.items():
            for call in calls:
                name = call.partition("(")[0]
                self.assertEqual(call, name + str(inspect.signature(vars(kind)[name])))


if __name__ == "__main__":
    unittest.main()
