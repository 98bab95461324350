"""Orders and lists of orders, written and read back."""

from farorders.errors import NoOrder, NoText
from farorders.orders import MOST_THINGS, check_order, is_order, is_order_list

NO_ORDERS = "-"


def show_order(order):
    """The numbers of an order with single blanks between."""
    check_order(order)
    return written(order)


def written(order):
    """The writing of what is known to be an order."""
    return " ".join([str(thing) for thing in order])


def show_orders(orders):
    """The orders of a list with a comma and a single blank between."""
    if not is_order_list(orders):
        raise NoOrder("not a list of orders of as many things")
    if len(orders) == 0:
        return NO_ORDERS
    return ", ".join([written(order) for order in orders])


def read_order(text):
    """The order that a text writes."""
    check_text(text)
    order = [number_in(word, MOST_THINGS) for word in text.split(" ")]
    if not is_order(order):
        raise NoText("not the writing of an order")
    return order


def check_text(thing):
    """Refuse what is no text at all."""
    if not isinstance(thing, str):
        raise NoText("not a text")


def number_in(word, many):
    """The number below so many that a word writes with no 0 ahead, or None."""
    for number in range(many):
        if word == str(number):
            return number
    return None


def read_orders(text):
    """The list of orders that a text writes."""
    check_text(text)
    if text == NO_ORDERS:
        return []
    orders = [read_order(part) for part in text.split(", ")]
    if not is_order_list(orders):
        raise NoText("not the writing of orders of as many things")
    return orders
