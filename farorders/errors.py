"""The refusals: one class for each kind."""


class OrderError(ValueError):
    """Any refusal."""


class NoOrder(OrderError):
    """What should be an order, or a list of orders, is none."""


class NoWay(OrderError):
    """What should be a way is none."""


class NoFit(OrderError):
    """Orders do not fit one another, or are too large for what is asked."""


class NoPlace(OrderError):
    """What should be a walk from an order is none."""


class NoNumber(OrderError):
    """What should be a number from some range is none."""


class TooMany(OrderError):
    """More would come of it than may be."""


class NoText(OrderError):
    """What should be the writing of something is none."""


class NoName(OrderError):
    """What should be a name is none."""


class NoRow(OrderError):
    """What should be a row for the desk is none."""
