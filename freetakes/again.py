"""Rows that come again: a list or tuple tells the first things, and those from its begin on come again without end."""

from freetakes.bounds import is_number
from freetakes.errors import BadTable

MOST = 1000


def check_row(begin, period, told, part):
    """Raise BadTable for the first of these values that is wrong.

    They are any values; told must be a list or tuple of begin + period things, and is called part.
    """
    if not is_number(begin, 0, MOST):
        raise BadTable("begin")
    if not is_number(period, 1, MOST):
        raise BadTable("period")
    if not isinstance(told, (list, tuple)) or len(told) != begin + period:
        raise BadTable(part)


def least_form(told, begin):
    """The least period of what comes again, and then the least begin: a pair of this begin and this period."""
    period = least_period(told[begin:])
    while begin > 0 and told[begin - 1] == told[begin - 1 + period]:
        begin = begin - 1
    return begin, period


def least_period(again):
    """The least period with which the things of this row, which comes again, come again."""
    many = len(again)
    for period in range(1, many):
        if many % period == 0 and again[:many - period] == again[period:]:
            return period
    return many


def place_of(at, begin, period):
    """The place in the row that tells of the thing with the index at."""
    return at if at < begin else begin + (at - begin) % period


def first_told(told, begin, count):
    """The list of the first count things of a row, of which those from begin on come again."""
    again = told[begin:]
    rounds = max(0, count - len(told)) // len(again) + 1
    return list((told + again * rounds)[:count])


def count_among(told, begin, thing, count):
    """How many of the first count things of a row are this one."""
    ahead = told[:begin]
    many = ahead[:count].count(thing)
    if count <= begin:
        return many
    again = told[begin:]
    rounds, rest = divmod(count - begin, len(again))
    return many + rounds * again.count(thing) + again[:rest].count(thing)
