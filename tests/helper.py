"""What several tests need: wrong things, slow ways to count, and how to ask."""

import copy
import itertools
import sys
import unittest

from farorders.errors import OrderError

WAYS = ("swap", "spot", "shift")
# The greatest number of twenty-six figures.
LARGE = 10 ** 26 - 1


class Anything:
    """A thing of no known kind that claims to be equal to all others."""

    def __eq__(self, other):
        return True

    __hash__ = None


NO_WHOLES = [True, False, None, "", "0", "1", b"1", [], [0], [1], (1,), {}, {1: 1}, {1}, [[1]], len, int, Anything()]

NO_WAYS = [
    "", " ", "Swap", "SWAP", "swap ", " swap", "swaps", "swa", "swap\n", "spot\t", "spots", "Spot", "shift ", "Shift",
    "swapspot", "swap spot", "s", "pot", b"swap", ["swap"], ("swap",), {"swap": 1}, {"swap"}, [["swap"]],
    None, True, False, 0, 1, 2, -1, 10 ** 25, str, len, Anything(),
]

NO_ORDERS = [
    None, True, False, 0, 1, -1, 10 ** 25, "", "0", "01", "0 1", "[0]", b"\x00", b"\x00\x01", (), (0,), (0, 1), (1, 0),
    {}, {0: 0}, {0: 0, 1: 1}, {0}, {0, 1}, range(2), list, len, Anything(),
    [], [1], [-1], [0, 0], [1, 1], [1, 2], [0, 2], [0, 1, 1], [0, 1, 3], [2, 1, 0, 2], [0, -1], [-1, 0], [1, -1, 0],
    [False], [True], [False, True], [0, True], [False, 1], [True, 0, 2], [2, 0, True],
    ["0"], [0, "1"], ["a", "b"], [b"0"], [None], [0, None], [0, []], [[]], [[0]], [[0], [1]], [[0, 1]], [(0, 1)],
    [(0,)], [{}], [{0}], [0, {1: 1}], [[[[[[[[[[0]]]]]]]]]], [Anything()], [0, Anything()], [Anything(), Anything()],
    [10 ** 25], [0, 10 ** 25], [-10 ** 25, 0],
    list(range(13)), list(range(12, -1, -1)), list(range(14)), list(range(120)), list(range(1, 13)), [0] * 12,
    [*range(11), 10], [*range(11), 12],
]

NO_ORDER_LISTS = [
    None, True, False, 0, 1, -1, 10 ** 25, "", "0", "0 1, 1 0", "-", b"", b"\x00", (), ([0],), ([0, 1], [1, 0]), {},
    {0: [0]}, {0}, {(0, 1), (1, 0)}, range(1), list, len, Anything(),
    [0], [1, 0], [0, 1, 2], [None], [True], [False], [""], ["0"], ["01", "10"], [b"\x00"], [()], [(0,)],
    [(0, 1), (1, 0)], [[]], [[], []], [{}], [{0: 0}], [{0}], [range(1)], [Anything()], [Anything(), Anything()],
    [[0], 0], [0, [0]], [[0], None], [[0, 1], (1, 0)], [(0, 1), [1, 0]], [[0, 1], []], [[], [0, 1]], [[0, 1], [1, 1]],
    [[0, 1], [1, 2]], [[0, 1], [1, False]], [[True, False], [0, 1]], [[False]], [[1]], [["0"]], [[0, "1"]],
    [[0, 1], "10"], [[0, 1], Anything()], [[0, Anything()]], [Anything(), [0, 1]],
    [[[0, 1], [1, 0]]], [[0, 1], [[1, 0]]], [[[[[[[[[[0]]]]]]]]]],
    [[0, 1], [0]], [[0], [0, 1]], [[0], [0, 1], [0, 1, 2]], [[0, 1], [1, 0], [0, 2, 1]], [[0, 1, 2], [1, 0]],
    [list(range(13))], [list(range(12)), list(range(13))], [[0, 1], [1, 0], [10 ** 25, 0]],
]

ALIKE_LISTS = [
    [[0], [0]], [[0, 1], [0, 1]], [[0, 1], [1, 0], [0, 1]], [[1, 0], [0, 1], [0, 1]],
    [list(range(6)), list(range(6))], [list(range(12)), list(range(11, -1, -1)), list(range(12))],
]


def orders(n):
    """All orders of n things, in order as lists are."""
    return [list(order) for order in itertools.permutations(range(n))]


def straight(n):
    """The first order of n things."""
    return list(range(n))


def far(way, one, other):
    """How far two orders are, straight from the words of the document."""
    things = range(len(one))
    if way == "swap":
        return sum(
            (one.index(a) < one.index(b)) != (other.index(a) < other.index(b))
            for a, b in itertools.combinations(things, 2)
        )
    if way == "spot":
        return sum(one[p] != other[p] for p in things)
    return max(abs(one.index(t) - other.index(t)) for t in things)


def greatest(way, n):
    """The greatest distance of two orders of n things."""
    return {"swap": n * (n - 1) // 2, "spot": n if n > 1 else 0, "shift": n - 1}[way]


def least_far(way, some):
    """The least distance of any two of a list of orders."""
    return min(far(way, one, other) for one, other in itertools.combinations(some, 2))


def some_orders(n):
    """A few orders of n things that are unlike one another in several ways."""
    straight = list(range(n))
    return [
        straight,
        straight[::-1],
        straight[1:] + straight[:1],
        straight[-1:] + straight[:-1],
        straight[1::2] + straight[::2],
        straight[n // 2:] + straight[:n // 2][::-1],
    ]


def steps_run(limit, function, *given):
    """How many of Python's own steps a call takes; past the limit it is ended."""
    steps = 0

    def follow(frame, event, worth):
        nonlocal steps
        frame.f_trace_opcodes = True
        if event == "opcode":
            steps += 1
            if steps > limit:
                raise AssertionError(f"more than {limit} steps")
        return follow

    before = sys.gettrace()
    sys.settrace(follow)
    try:
        function(*given)
    finally:
        sys.settrace(before)
    return steps


class Asking(unittest.TestCase):
    """A test that can ask whether something is refused as told."""

    def assert_refused(self, kind, function, *given):
        """The call raises just this class of refusal."""
        with self.subTest(function=function.__name__, given=given):
            with self.assertRaises(OrderError) as caught:
                function(*given)
            self.assertIs(caught.exception.__class__, kind)
            self.assertIsInstance(caught.exception, ValueError)

    def assert_told(self, worth, told):
        """The very value, of the very kind, all through."""
        self.assertEqual(worth, told)
        self.assertEqual(repr(worth), repr(told))

    def assert_own(self, function, *given):
        """What is handed in stays as it was, and what is told is the asker's own."""
        as_it_was = copy.deepcopy(given)
        first = function(*given)
        kept = copy.deepcopy(first)
        second = function(*given)
        self.assert_told(kept, second)
        parts = parts_in(first) + parts_in(second) + parts_in(given)
        self.assertEqual(len(parts), len({id(each) for each in parts}))
        for each in parts_in(first):
            spoil(each)
        self.assert_told(as_it_was, given)
        self.assert_told(kept, second)
        self.assert_told(kept, function(*given))


def parts_in(thing):
    """All lists and dicts in a thing: itself, where it is one, and those within it and within tuples."""
    itself = [thing] if isinstance(thing, (list, dict)) else []
    within = thing if isinstance(thing, (list, tuple)) else []
    if isinstance(thing, dict):
        within = thing.values()
    return itself + [inner for each in within for inner in parts_in(each)]


def spoil(part):
    """Change a list or a dict so that it is like none that is told."""
    if isinstance(part, dict):
        part.clear()
        part["spoilt"] = True
    else:
        part.append("spoilt")
        part.reverse()
