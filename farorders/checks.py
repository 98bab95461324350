"""What is asked of numbers and ways before anything is done with them."""

from farorders.errors import NoNumber, NoWay, TooMany

WAYS = ("swap", "spot", "shift")


def is_whole(thing):
    """Whether anything is a whole number; True and False are none."""
    return isinstance(thing, int) and not isinstance(thing, bool)


def check_way(thing):
    """Refuse what is no way."""
    if not isinstance(thing, str) or thing not in WAYS:
        raise NoWay("a way is swap, spot or shift")


def check_from(thing, least):
    """Refuse what is no whole number from the least on."""
    if not is_whole(thing) or thing < least:
        raise NoNumber(f"not a whole number from {least} on")


def check_size(thing, most):
    """Refuse what is no number of things from 1 to the most."""
    if not is_whole(thing) or thing < 1 or thing > most:
        raise NoNumber(f"not a whole number from 1 to {most}")


def check_few(n, most):
    """Refuse more things than those of which it can be told without too much being gone through."""
    if n > most:
        raise TooMany(f"more than {most} things")


def check_apart(way, n, most, d):
    """Refuse what is no way, no number of things from 1 to the most, or no d from 1 on."""
    check_way(way)
    check_size(n, most)
    check_from(d, 1)
