"""[24]: orders and lists of orders written and read back."""

import unittest

from farorders.errors import NoOrder, NoText
from farorders.texts import read_order, read_orders, show_order, show_orders
from tests.helper import ALIKE_LISTS, NO_ORDER_LISTS, NO_ORDERS, Anything, Asking, orders, some_orders, straight

NO_STRINGS = [
    None, True, False, 0, 1, -1, 10 ** 25, b"", b"0", b"0 1", b"-", [], [0], [0, 1], ["0"], ["0", "1"], ["-"], (),
    ("0 1",), {}, {"0": 0}, {"0 1"}, [[0, 1]], [[]], str, len, Anything(), [Anything()], [[[[[[[[[["0"]]]]]]]]]],
]

# What writes neither an order nor a list of orders.
NO_WRITINGS = [
    "", " ", "  ", "\n", "\t", "0 ", " 0", "0\n", "\n0", "0\t", "\t0", " 0 1", "0 1 ", "0  1", "0   1", "0\t1", "0\n1",
    "0 1\n", "0 1\t", "0 \t1", "0 1  ", "01", "00", "000", "0 01", "00 1", "00 01", "0 1 02", "0 1 2 03", "+0",
    "-0", "0 +1", "0 -1", "-1", "--", "- ", " -", "-\n", "- -", "0 -", "1", "2", "0 2", "1 2", "0 0", "1 1", "0 1 1",
    "0 1 3", "0 12", "a", "0 a", "a b", "x 0", "0x0", "0 0x1", "0 1.", "0.0", "0. 1", "0 1e0", "1e0 0", "0_0", "0 1_",
    "zero", "none", "[0]", "[0, 1]", "[0 1]", "(0 1)", "0;1", "0/1", "0 1;", "0 1.", "\"0\"", "'0'", "0 '1'", "~", "!",
    "True", "False", "0 True", "None", "0 " + "9" * 400, "9" * 500, "0" * 500, " " * 500, "0 " * 200, "1 " * 249 + "0",
    " ".join(map(str, range(13))), " ".join(map(str, range(12, -1, -1))), " ".join(map(str, range(1, 13))),
    " ".join(map(str, [*range(11), 10])), " ".join(map(str, [*range(11), 12])), "10", "11", "0 10", "0 1 10",
]

# What looks like a list of orders and writes none.
NO_LIST_WRITINGS = NO_WRITINGS + [
    ",", ", ", ",,", ", ,", "0,", "0, ", ",0", ", 0", "0,0", "0,1", "0 1,1 0", "0 1 ,1 0", "0 1 , 1 0", "0 1,  1 0",
    "0 1,\t1 0", "0 1,\n1 0", "0 1, 1 0,", "0 1, 1 0, ", ", 0 1, 1 0", " 0 1, 1 0", "0 1, 1 0 ", "0 1, , 1 0",
    "0 1,, 1 0", "0 1; 1 0", "0 1. 1 0", "0 1, -", "-, 0 1", "-, -", "0, -", "0 1, 1", "0 1, 0", "0, 0 1", "0 1, 0 1 2",
    "0 1, 1 0, 0", "0 1, 1 0, 0 1 2", "0 1 2, 1 0", "0 1, 1 1", "0 1, 1 2", "1 2, 0 1", "0 1, 01 0", "0 01, 1 0",
    "0 1, a", "0 1, 1 a", "0 1, [1 0]", "0, 1", "0, 1, 2", "0, 1 ", "0 1,1 0, 0 1",
]


def by_hand(order):
    """An order written as the document says."""
    text = ""
    for place, thing in enumerate(order):
        text += (" " if place else "") + repr(thing)
    return text


class Show(Asking):

    def test_by_hand(self):
        self.assert_told("0", show_order([0]))
        self.assert_told("2 0 1", show_order([2, 0, 1]))
        self.assert_told("11 10 9 8 7 6 5 4 3 2 1 0", show_order(straight(12)[::-1]))
        self.assert_told("-", show_orders([]))
        self.assert_told("0", show_orders([[0]]))
        self.assert_told("0, 0", show_orders([[0], [0]]))
        self.assert_told("2 0 1", show_orders([[2, 0, 1]]))
        self.assert_told("1 0, 0 1, 1 0", show_orders([[1, 0], [0, 1], [1, 0]]))

    def test_each_order_of_few_things(self):
        for n in range(1, 6):
            for order in orders(n):
                self.assert_told(by_hand(order), show_order(order))
            self.assert_told(", ".join(by_hand(order) for order in orders(n)), show_orders(orders(n)))

    def test_many_things(self):
        for n in range(6, 13):
            for order in some_orders(n):
                self.assert_told(by_hand(order), show_order(order))
            self.assert_told(", ".join(by_hand(order) for order in some_orders(n)), show_orders(some_orders(n)))

    def test_refused(self):
        for thing in NO_ORDERS:
            self.assert_refused(NoOrder, show_order, thing)
        for thing in NO_ORDER_LISTS:
            self.assert_refused(NoOrder, show_orders, thing)
        for thing in ([[0, 1]], "0 1", "-"):
            self.assert_refused(NoOrder, show_order, thing)
            if thing != [[0, 1]]:
                self.assert_refused(NoOrder, show_orders, thing)


class Read(Asking):

    def test_by_hand(self):
        self.assert_told([0], read_order("0"))
        self.assert_told([2, 0, 1], read_order("2 0 1"))
        self.assert_told(straight(12)[::-1], read_order("11 10 9 8 7 6 5 4 3 2 1 0"))
        self.assert_told([], read_orders("-"))
        self.assert_told([[0]], read_orders("0"))
        self.assert_told([[2, 0, 1]], read_orders("2 0 1"))
        self.assert_told([[1, 0], [0, 1], [1, 0]], read_orders("1 0, 0 1, 1 0"))

    def test_what_is_written_is_read_back(self):
        for n in range(1, 13):
            some = orders(n) if n < 6 else some_orders(n)
            for order in some:
                self.assert_told(order, read_order(show_order(order)))
                self.assert_told([order], read_orders(show_orders([order])))
            self.assert_told(some, read_orders(show_orders(some)))
            self.assert_told(some[::-1] + some[:1], read_orders(show_orders(some[::-1] + some[:1])))
        for some in [[]] + ALIKE_LISTS + [orders(6)[:120]]:
            self.assert_told(some, read_orders(show_orders(some)))

    def test_what_is_read_is_written_back(self):
        for text in ("0", "1 0", "0 1 2", "10 0 1 2 3 4 5 6 7 8 9"):
            self.assert_told(text, show_order(read_order(text)))
        for text in ("-", "0", "0, 0", "1 0, 0 1, 1 0"):
            self.assert_told(text, show_orders(read_orders(text)))

    def test_a_list_is_no_order_and_an_order_is_a_list(self):
        for text in ("-", "0, 0", "0 1, 1 0", "0 1, 0 1"):
            self.assert_refused(NoText, read_order, text)
        self.assert_told([[1, 0, 2]], read_orders("1 0 2"))

    def test_refused(self):
        for text in NO_STRINGS + NO_WRITINGS:
            self.assert_refused(NoText, read_order, text)
            self.assert_refused(NoText, read_orders, text)
        for text in NO_LIST_WRITINGS:
            self.assert_refused(NoText, read_orders, text)
            self.assert_refused(NoText, read_order, text)

    def test_each_sign_put_in_or_taken_out(self):
        signs = [chr(code) for code in range(32, 127) if chr(code) != "%"] + ["\t", "\n"]
        writings = {by_hand(order): order for n in range(1, 13) for order in orders(min(n, 4))}
        for text in ("0", "0 1", "2 0 1"):
            for place in range(len(text) + 1):
                more = [text[:place] + sign + text[place:] for sign in signs]
                for changed in more + [text[:place] + text[place + 1:]]:
                    if changed in writings:
                        self.assert_told(writings[changed], read_order(changed))
                    else:
                        self.assert_refused(NoText, read_order, changed)


class Own(Asking):

    def test_told_lists(self):
        for text in ("0", "2 0 1", "11 10 9 8 7 6 5 4 3 2 1 0"):
            self.assert_own(read_order, text)
        for text in ("-", "0", "0, 0", "0 1, 0 1, 1 0"):
            self.assert_own(read_orders, text)

    def test_what_is_handed_in_stays(self):
        alike = [0, 1]
        for some in ([], [[0]], [[2, 0, 1], [0, 1, 2]]):
            self.assert_own(show_orders, some)
        self.assert_own(show_order, [2, 0, 1])
        self.assert_told("0 1, 0 1", show_orders([alike, alike]))


if __name__ == "__main__":
    unittest.main()
