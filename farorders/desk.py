"""A desk at which a kept list is asked and changed by rows of text."""

from farorders.bounds import bounds_by_rounds
from farorders.errors import NoRow
from farorders.lister import Lister
from farorders.middle import middle_of
from farorders.nearest import nearest_of, not_sure
from farorders.texts import number_in, read_order, show_order, show_orders

DONE = "ok"
NOTHING = "none"
# Numbers in a row have one or two figures.
NUMBERS = 100


def undo_last(lister):
    """The answer to undo."""
    lister.undo()
    return DONE


def tell_list(lister):
    """The answer to list."""
    return show_orders(lister.orders())


def tell_apart(lister):
    """The answer to apart."""
    least = lister.least_apart()
    return NOTHING if least is None else str(least)


def tell_room(lister):
    """The answer to room."""
    return str(lister.how_many_more())


def tell_first(lister):
    """The answer to first."""
    order = lister.first_more()
    return NOTHING if order is None else show_order(order)


def tell_bounds(lister):
    """The answer to bounds."""
    least, most = bounds_by_rounds(lister.way, lister.n, lister.d)
    return f"{least} {most}"


def tell_middle(lister):
    """The answer to middle."""
    far, order = middle_of(lister.way, lister.orders())
    return f"{far}: {show_order(order)}"


def let_come(lister, order):
    """The answer to come with an order."""
    near = lister.come(order)
    return DONE if len(near) == 0 else show_orders(near)


def let_drop(lister, order):
    """The answer to drop with an order."""
    lister.drop(order)
    return DONE


def tell_near(lister, order):
    """The answer to near with an order."""
    far, orders = nearest_of(lister.way, order, lister.orders())
    return f"{far}: {show_orders(orders)}"


def tell_sure(lister, e):
    """The answer to sure with a number of errors."""
    return "yes" if not_sure(lister.way, lister.orders(), e) is None else "no"


BARE_ROWS = {
    "undo": undo_last, "list": tell_list, "apart": tell_apart, "room": tell_room, "first": tell_first,
    "bounds": tell_bounds, "middle": tell_middle,
}
ORDER_ROWS = {"come": let_come, "drop": let_drop, "near": tell_near}


def read_number(word):
    """The number that a word of a row writes."""
    number = number_in(word, NUMBERS)
    if number is None:
        raise NoRow("not a number of one or two figures with no 0 ahead")
    return number


class Desk:
    """Answers rows about the list that it keeps."""

    def __init__(self):
        self.lister = Lister("swap", 3, 1)

    def say(self, row):
        """The answer to a row."""
        if not isinstance(row, str):
            raise NoRow("not a text")
        if row in BARE_ROWS:
            bare = BARE_ROWS[row]
            return bare(self.lister)
        word, blank, rest = row.partition(" ")
        if word in ORDER_ROWS and blank == " ":
            with_order = ORDER_ROWS[word]
            return with_order(self.lister, read_order(rest))
        return self.say_with_numbers(row.split(" "))

    def say_with_numbers(self, words):
        """The answer to a row that has numbers, from its words."""
        word, *given = words
        if word == "sure" and len(given) == 1:
            return tell_sure(self.lister, read_number(given[0]))
        if word == "lister" and len(given) == 3 and given[0] != "":
            self.lister = Lister(given[0], read_number(given[1]), read_number(given[2]))
            return DONE
        raise NoRow("no such row")
