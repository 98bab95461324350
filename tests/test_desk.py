"""[25] and [26]: the rows of a desk, what is answered and what is refused."""

import itertools
import random
import unittest

from farorders.bounds import bounds_by_rounds
from farorders.desk import Desk
from farorders.errors import NoFit, NoNumber, NoOrder, NoRow, NoText, NoWay, OrderError, TooMany
from tests.helper import (
    NO_ORDERS, NO_WAYS, WAYS, Anything, Asking, far, greatest, least_far, orders, some_orders, steps_run, straight
)
from tests.test_lister import Plain
from tests.test_middle import drawn, middle_by_hand, middle_from_the_front
from tests.test_nearest import first_doubt
from tests.test_texts import NO_LIST_WRITINGS, NO_STRINGS, by_hand

BARE = ("undo", "list", "apart", "room", "first", "bounds", "middle")
WITH_ORDER = ("come", "drop", "near")

NO_NUMBERS = [
    "00", "01", "09", "000", "001", "100", "101", "999", "1000", "9" * 26, "+1", "-1", "-0", "1.", ".1", "1.0", "a",
    "1a", "a1", "0x1", "1_0", "1,", "x", "\t1", "1\n", "1\t", "\n", "1\n0", "one", "True", "None", "-", "~",
]

NO_ROWS = [
    None, True, False, 0, 1, -1, 10 ** 25, b"", b"list", b"come 0 1 2", [], ["list"], ("list",), ("come", "0 1 2"),
    ["come", [0, 1, 2]], {}, {"list": 1}, {"list"}, [["list"]], str, len, Anything(), [[[[[[[[[["list"]]]]]]]]]],
    "", " ", "  ", "\n", "\t", "~", "-", "0", "0 1 2", "0 1 2, 2 1 0", "ok", "none", "yes", "no", "help", "more", "way",
    "come", "drop", "near", "sure", "lister", "Come 0 1 2", "COME 0 1 2", " come 0 1 2", "come\t0 1 2", "come\n0 1 2",
    "come0 1 2", "comes 0 1 2", "com 0 1 2", "come, 0 1 2", "take 0 1 2", "\tcome 0 1 2", "\ncome 0 1 2", "come\n",
    "come\t", "near\t", "drop\n", "dropp 0 1 2", "nearest 0 1 2", "Drop 0 1 2", "Near 0 1 2", " near 0 1 2", " come",
    "list come 0 1 2", "orders", "Sure 1", "sure", "sure ", "sure  1", "sure 1 ", " sure 1", "sure 1 1", "sure\t1",
    "sure1", "sure 1\n", "surely 1", "lister ", "lister swap", "lister swap ", "lister swap 3", "lister swap 3 ",
    "lister swap  3 1",
    "lister  swap 3 1", " lister swap 3 1", "lister swap 3 1 ", "lister swap 3  1", "lister swap 3 1 1", "lister  3 1",
    "lister 3 1", "lister 3 1 ", "lister   ", "lister    ", "lister swap 3 ,", "Lister swap 3 1", "lister\tswap 3 1",
    "lister swap\t3 1", "lister swap 3\t1", "lister swap 3\n1", "lister swap 3 1\n", "listers swap 3 1",
    "lister swap three 1",
    "lister swap, 3, 1", "lister 3 swap 1", "lister 3 1 swap", "l" * 500, "come" * 100, " " * 500,
] + [change for word in BARE for change in (
    word + " ", " " + word, word + "\n", word + "\t", word.upper(), word.title(), word + " 1", word + " 0 1 2",
    word + "s", word[:-1], word + " " + word, word + "  ", "\n" + word, word + ",",
)]


def told(desk, rows):
    """What a desk answers to rows, one after the other."""
    return [desk.say(row) for row in rows]


def desk_with(way, n, d, some):
    """A desk whose list has these orders."""
    desk = Desk()
    rows = [f"lister {way} {n} {d}"] + [f"come {by_hand(order)}" for order in some]
    if set(told(desk, rows)) != {"ok"}:
        raise AssertionError("not all were taken")
    return desk


def show(some):
    """A list of orders written as the document says."""
    return ", ".join(by_hand(order) for order in some) if some else "-"


def none_or(worth):
    """The word for None, else the worth written."""
    return "none" if worth is None else str(worth)


class PlainDesk:
    """What a desk is to answer, by a plain list: a text, or the class of the refusal."""

    def __init__(self):
        self.plain = Plain("swap", 3, 1)

    def say(self, word, given):
        return getattr(self, word)(*given)

    def lister(self, way, n, d):
        if not 1 <= n <= 8 or d < 1:
            return NoNumber
        self.plain = Plain(way, n, d)
        return "ok"

    def come(self, order):
        if len(order) != self.plain.n:
            return NoFit
        if len(self.plain.kept) == 120:
            return TooMany
        near = self.plain.come(order)
        return show(near) if near else "ok"

    def drop(self, order):
        return self.plain.drop(order) or "ok"

    def undo(self):
        return self.plain.undo() or "ok"

    def list(self):
        return show(sorted(self.plain.kept))

    def apart(self):
        kept = self.plain.kept
        return none_or(least_far(self.plain.way, kept) if len(kept) > 1 else None)

    def room(self):
        return str(len(self.plain.more())) if self.plain.n <= 6 else TooMany

    def first(self):
        if self.plain.n > 6:
            return TooMany
        more = self.plain.more()
        return by_hand(more[0]) if more else "none"

    def near(self, order):
        if not self.plain.kept:
            return NoOrder
        if len(order) != self.plain.n:
            return NoFit
        r = min(far(self.plain.way, order, one) for one in self.plain.kept)
        return f"{r}: {show([one for one in sorted(self.plain.kept) if far(self.plain.way, order, one) == r])}"

    def sure(self, e):
        if not self.plain.kept:
            return NoOrder
        if self.plain.n > 6:
            return NoFit
        return "yes" if first_doubt(self.plain.way, self.plain.kept, e) is None else "no"

    def bounds(self):
        least, most = bounds_by_rounds(self.plain.way, self.plain.n, self.plain.d)
        return f"{least} {most}"

    def middle(self):
        if not 1 <= len(self.plain.kept) <= 20:
            return NoOrder
        if self.plain.way == "swap":
            least, order = middle_from_the_front(self.plain.kept)
        elif self.plain.n > 6:
            return TooMany
        else:
            least, order = middle_by_hand(self.plain.way, self.plain.kept)
        return f"{least}: {by_hand(order)}"


class DeskAsking(Asking):

    def assert_answers(self, desk, *rows):
        """The desk answers each row, one after the other, as told: a text, or a refusal."""
        for row, worth in rows:
            if isinstance(worth, str):
                self.assert_told(worth, desk.say(row))
            else:
                self.assert_refused(worth, desk.say, row)


class Rows(DeskAsking):

    def test_by_hand(self):
        self.assert_answers(
            Desk(), ("list", "-"), ("apart", "none"), ("room", "6"), ("first", "0 1 2"), ("bounds", "6 6"),
            ("undo", NoNumber), ("near 0 1 2", NoOrder), ("sure 0", NoOrder), ("middle", NoOrder),
            ("come 2 0 1", "ok"), ("list", "2 0 1"), ("apart", "none"), ("come 0 1 2", "ok"), ("list", "0 1 2, 2 0 1"),
            ("come 0 1 2", "0 1 2"), ("apart", "2"), ("room", "4"), ("first", "0 2 1"),
            ("near 0 2 1", "1: 0 1 2, 2 0 1"), ("near 2 1 0", "1: 2 0 1"), ("near 2 0 1", "0: 2 0 1"),
            ("sure 0", "yes"), ("sure 1", "no"), ("middle", "2: 0 1 2"),
            ("drop 0 1 2", "ok"), ("list", "2 0 1"), ("undo", "ok"), ("list", "0 1 2, 2 0 1"), ("undo", "ok"),
            ("undo", "ok"), ("list", "-"), ("undo", NoNumber),
        )

    def test_by_hand_another_lister(self):
        self.assert_answers(
            Desk(), ("lister swap 3 2", "ok"), ("come 0 1 2", "ok"), ("come 2 0 1", "ok"),
            ("come 0 2 1", "0 1 2, 2 0 1"),
            ("list", "0 1 2, 2 0 1"), ("room", "1"), ("first", "1 2 0"), ("come 1 2 0", "ok"), ("room", "0"),
            ("first", "none"), ("apart", "2"), ("bounds", "2 6"), ("middle", "4: 0 1 2"),
            ("lister shift 4 3", "ok"), ("list", "-"), ("undo", NoNumber), ("come 3 1 2 0", "ok"),
            ("come 0 1 2 3", "ok"),
            ("come 0 1 3 2", "0 1 2 3"), ("sure 1", "yes"), ("sure 2", "no"), ("sure 99", "no"), ("bounds", "2 4"),
            ("lister spot 1 1", "ok"), ("room", "1"), ("first", "0"), ("come 0", "ok"), ("middle", "0: 0"),
            ("room", "0"), ("first", "none"), ("sure 99", "yes"), ("near 0", "0: 0"), ("apart", "none"),
            ("lister swap 8 99", "ok"), ("come 7 6 5 4 3 2 1 0", "ok"), ("come 0 1 2 3 4 5 6 7", "7 6 5 4 3 2 1 0"),
            ("middle", "0: 7 6 5 4 3 2 1 0"), ("near 0 1 2 3 4 5 6 7", "28: 7 6 5 4 3 2 1 0"), ("bounds", "1 1"),
        )

    def test_a_new_desk(self):
        self.assert_answers(Desk(), ("come 0 1", NoFit), ("come 0 1 2 3", NoFit), ("come 0 1 2", "ok"))
        self.assert_answers(Desk(), ("come 0 1 2", "ok"), ("come 0 2 1", "ok"), ("near 2 0 1", "1: 0 2 1"))
        one, other = Desk(), Desk()
        one.say("come 0 1 2")
        one.say("lister spot 2 1")
        self.assert_answers(other, ("list", "-"), ("undo", NoNumber), ("come 0 1 2", "ok"))

    def test_against_a_plain_list(self):
        chance = random.Random("desk")
        words = ["come"] * 6 + ["drop", "undo", "near"] * 2
        words += ["list", "apart", "room", "first", "sure", "bounds", "middle"]
        for way in WAYS:
            for n in (1, 2, 3, 4, 5):
                for d in (1, 2, greatest(way, n)) if n > 1 else (1,):
                    desk, plain = Desk(), PlainDesk()
                    self.assert_answers(desk, (f"lister {way} {n} {d}", plain.lister(way, n, d)))
                    for _ in range(45 if n < 5 else 25):
                        word = chance.choice(words)
                        given, text = [], word
                        if word in WITH_ORDER:
                            order = chance.sample(range(n), n)
                            if plain.plain.kept and chance.random() < 0.4:
                                order = chance.choice(plain.plain.kept)
                            given, text = [order], f"{word} {by_hand(order)}"
                        if word == "sure":
                            given = [chance.randrange(4)]
                            text = f"sure {given[0]}"
                        self.assert_answers(desk, (text, plain.say(word, given)), ("list", plain.list()))

    def test_of_many_things(self):
        for way in WAYS:
            for n in range(6, 9):
                plain = PlainDesk()
                desk = Desk()
                self.assert_answers(desk, (f"lister {way} {n} 2", plain.lister(way, n, 2)))
                for order in some_orders(n) + drawn("desk", n, 3):
                    self.assert_answers(desk, (f"come {by_hand(order)}", plain.come(order)))
                self.assert_answers(
                    desk, ("list", plain.list()), ("apart", plain.apart()), ("room", plain.room()),
                    ("first", plain.first()),
                    ("sure 0", plain.sure(0)), ("sure 1", plain.sure(1)), ("bounds", plain.bounds()),
                    ("middle", plain.middle()),
                )
                for order in drawn("by", n, 5):
                    self.assert_answers(desk, (f"near {by_hand(order)}", plain.near(order)))

    def test_numbers_of_one_and_two_figures(self):
        for d in range(1, 100):
            least, most = bounds_by_rounds("swap", 8, d)
            self.assert_answers(Desk(), (f"lister swap 8 {d}", "ok"), ("bounds", f"{least} {most}"))
        for n in range(100):
            worth = "ok" if 1 <= n <= 8 else NoNumber
            self.assert_answers(Desk(), (f"lister spot {n} 1", worth))
        desk = desk_with("swap", 6, 15, [straight(6), straight(6)[::-1]])
        for e in range(100):
            self.assert_answers(desk, (f"sure {e}", "yes" if e < 8 else "no"))

    def test_near_tells_in_the_order_of_the_sorted_list(self):
        for some in itertools.permutations([[1, 0, 2], [0, 2, 1]]):
            self.assert_answers(desk_with("swap", 3, 1, some), ("near 0 1 2", "1: 0 2 1, 1 0 2"))

    def test_one_hundred_and_twenty_orders(self):
        some = orders(5)
        desk = desk_with("swap", 5, 1, some)
        self.assert_answers(
            desk, ("come 0 1 2 3 4", TooMany), ("come 0 1 2 3", NoFit), ("come 0 1 2 3 5", NoText),
            ("list", show(some)),
            ("room", "0"), ("first", "none"), ("apart", "1"), ("middle", NoOrder), ("near 4 3 2 1 0", "0: 4 3 2 1 0"),
            ("sure 0", "yes"), ("sure 1", "no"), ("undo", "ok"), ("list", show(some[:119])), ("first", "4 3 2 1 0"),
        )
        desk = desk_with("shift", 6, 1, orders(6)[:120])
        self.assert_answers(desk, ("come 5 4 3 2 1 0", TooMany), ("room", "600"), ("first", "1 0 2 3 4 5"))

    def test_twenty_orders_at_middle_and_one_more(self):
        some = orders(4)[:20]
        for way in WAYS:
            desk = desk_with(way, 4, 1, some)
            least, order = middle_by_hand(way, some)
            answer = f"{least}: {by_hand(order)}"
            self.assert_answers(
                desk, ("middle", answer), (f"come {by_hand(orders(4)[20])}", "ok"), ("middle", NoOrder),
                ("undo", "ok"), ("middle", answer),
            )
            # More than twenty are refused ahead of many things.
            self.assert_answers(desk_with(way, 7, 1, orders(7)[:21]), ("middle", NoOrder))

    def test_undo_does_not_go_behind_a_new_lister(self):
        desk = desk_with("swap", 3, 1, [[0, 1, 2]])
        self.assert_answers(desk, ("lister swap 3 1", "ok"), ("undo", NoNumber), ("list", "-"))

    def test_not_all_are_gone_through(self):
        for way in WAYS:
            desk = desk_with(way, 8, 2, some_orders(8)[:3])
            for row in ("list", "apart", "bounds", f"near {by_hand(straight(8))}", f"come {by_hand(straight(8))}"):
                steps_run(200000, desk.say, row)
        steps_run(1000000, desk_with("swap", 8, 2, some_orders(8)[:3]).say, "middle")


class Refused(DeskAsking):

    def test_no_row(self):
        for desk in (Desk(), desk_with("swap", 3, 1, [[0, 1, 2]])):
            for row in NO_ROWS:
                self.assert_refused(NoRow, desk.say, row)

    def test_no_numbers(self):
        for word in NO_NUMBERS + [""]:
            for way in ("swap", "way", "-"):
                self.assert_refused(NoRow, Desk().say, f"lister {way} {word} 1")
                self.assert_refused(NoRow, Desk().say, f"lister {way} 3 {word}")
                self.assert_refused(NoRow, Desk().say, f"lister {way} 0 {word}")
                self.assert_refused(NoRow, Desk().say, f"lister {way} {word} 0")
            self.assert_refused(NoRow, Desk().say, f"sure {word}")
            self.assert_refused(NoRow, desk_with("swap", 3, 1, [[0, 1, 2]]).say, f"sure {word}")

    def test_no_way(self):
        words = [way for way in NO_WAYS if isinstance(way, str) and way != "" and " " not in way]
        for way in words + ["\t", "\n", "~", "-", "0", "3", "swap,", "lister", "swap\t3", "w" * 400]:
            for numbers in ("3 1", "0 1", "9 1", "99 99", "3 0", "0 0"):
                self.assert_refused(NoWay, Desk().say, f"lister {way} {numbers}")

    def test_no_number(self):
        for way in WAYS:
            for n, d in ((0, 1), (9, 1), (10, 1), (99, 1), (3, 0), (8, 0), (0, 0), (9, 0)):
                self.assert_refused(NoNumber, Desk().say, f"lister {way} {n} {d}")

    def test_no_text(self):
        full = desk_with("spot", 5, 1, orders(5))
        for desk in (Desk(), desk_with("swap", 3, 1, [[0, 1, 2]]), full):
            for word in WITH_ORDER:
                for text in NO_LIST_WRITINGS + ["-", "0 1 2, 2 1 0", "-" * 100]:
                    self.assert_refused(NoText, desk.say, f"{word} {text}")

    def test_with_nothing_behind_the_blank_and_without_the_blank(self):
        for word in WITH_ORDER:
            self.assert_refused(NoRow, Desk().say, word)
            self.assert_refused(NoText, Desk().say, word + " ")
            self.assert_refused(NoText, Desk().say, word + "  ")
            self.assert_refused(NoText, Desk().say, word + "  0 1 2")
            self.assert_refused(NoText, Desk().say, word + " 0 1 2 ")

    def test_as_the_stages_refuse(self):
        for way in WAYS:
            for n in range(1, 9):
                other = by_hand(straight(n + 1))
                order = by_hand(straight(n))
                self.assert_answers(
                    desk_with(way, n, 1, []), (f"near {order}", NoOrder), (f"near {other}", NoOrder),
                    ("sure 0", NoOrder),
                    ("sure 99", NoOrder), ("middle", NoOrder), (f"drop {order}", NoFit), (f"drop {other}", NoFit),
                    (f"come {other}", NoFit), ("undo", NoNumber), ("list", "-"),
                )
                self.assert_answers(
                    desk_with(way, n, 1, [straight(n)]), (f"near {other}", NoFit), (f"drop {other}", NoFit),
                    (f"come {other}", NoFit), ("sure 0", "yes" if n < 7 else NoFit),
                    ("middle", f"0: {order}" if n < 7 or way == "swap" else TooMany),
                )
            for n in (7, 8):
                desk = desk_with(way, n, 1, [straight(n)])
                self.assert_answers(desk, ("room", TooMany), ("first", TooMany), ("sure 3", NoFit))

    def test_what_is_refused_changes_nothing(self):
        rows = [
            "come 0 1 2", "come 1 2 0", "come 0 2 1", "drop 0 1 2", "undo", "come 2 1 0", "undo", "undo", "come 2 0 1",
            "drop 2 0 1", "come 0 1 2", "come 1 0 2", "list", "apart", "room", "first", "bounds", "undo", "undo",
            "list",
        ]
        wrong = NO_ROWS[:40] + NO_ORDERS[:20] + [
            "lister swop 2 1", "lister swap 9 1", "lister spot 3 0", "lister spot 03 1", "lister 3 1", "come", "come ",
            "come 0 1", "come 0 1 2 3", "come 0 1 1", "come 0 1 2,", "drop 0 1", "drop 0 1 1", "drop ", "near 0 1",
            "near ", "sure 100", "sure x", "undo 1", "undo ", "middle ", "lister swap 3", "lister shift 0 1",
        ]
        straight_on = Desk()
        straight_on.say("lister swap 3 2")
        disturbed = Desk()
        disturbed.say("lister swap 3 2")
        for row in rows:
            for fault in wrong:
                with self.assertRaises(OrderError):
                    disturbed.say(fault)
            self.assert_told(straight_on.say(row), disturbed.say(row))
        self.assert_answers(straight_on, ("list", "2 0 1"), ("undo", "ok"), ("list", "-"), ("undo", NoNumber))
        self.assert_answers(disturbed, ("list", "2 0 1"), ("undo", "ok"), ("list", "-"), ("undo", NoNumber))

    def test_a_refused_lister_leaves_the_old_one(self):
        desk = desk_with("spot", 4, 2, [straight(4)])
        for row, refusal in (
            ("lister swop 5 1", NoWay), ("lister swap 9 1", NoNumber), ("lister swap 5 0", NoNumber),
            ("lister swap 5", NoRow), ("lister swap 5 100", NoRow),
        ):
            self.assert_refused(refusal, desk.say, row)
            self.assert_answers(desk, ("list", "0 1 2 3"), ("near 3 2 1 0", "4: 0 1 2 3"))
        self.assert_answers(desk, ("undo", "ok"), ("list", "-"), ("undo", NoNumber))

    def test_rows_that_only_ask_change_nothing(self):
        desk = desk_with("swap", 3, 2, [[2, 0, 1], [0, 1, 2]])
        asking = ["list", "apart", "room", "first", "bounds", "middle", "near 0 2 1", "sure 1"]
        asking += ["come 0 2 1", "come 0 1 2"]
        before = told(desk, asking)
        self.assert_told(before, told(desk, asking))
        self.assert_answers(desk, ("undo", "ok"), ("list", "2 0 1"), ("undo", "ok"), ("undo", NoNumber))

    def test_no_strings(self):
        for thing in NO_STRINGS:
            self.assert_refused(NoRow, Desk().say, thing)

    def test_say_stands_in_the_class_itself(self):
        self.assertIn("say", vars(Desk))


if __name__ == "__main__":
    unittest.main()
