"""One error for each refusal, and the checks that most calls begin with."""


class OutOfRange(Exception):
    """A number isn't in its range (-1)."""


class LogFull(Exception):
    """More events than a case may be told (-3)."""


class NoSuchPart(Exception):
    """The procedure hasn't as many papers, states or rules, or two procedures haven't as many papers (-5)."""


class NotRight(Exception):
    """The text isn't right (-6)."""


class TooMany(Exception):
    """More configurations than allowed (-7)."""


class NothingThere(Exception):
    """No text in the place, or the case isn't open (-8)."""


def check_range(number, least, most):
    """Refuse a number that isn't one of least to most."""
    if number < least or number > most:
        raise OutOfRange()


def check_part(number, parts):
    """Refuse a number when there are no more parts than that."""
    if number >= len(parts):
        raise NoSuchPart()
