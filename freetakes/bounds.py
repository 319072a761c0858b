"""Numbers within bounds, and heaps."""

from freetakes.errors import BadSize

BIGGEST = 10 ** 30


def is_number(value, least, most):
    """Whether any value is an integer (True and False are none) from least to most."""
    return isinstance(value, int) and not isinstance(value, bool) and least <= value <= most


def is_from(value, least):
    """Whether any value is an integer (True and False are none) from least on."""
    return isinstance(value, int) and not isinstance(value, bool) and least <= value


def check_size(value):
    """Raise BadSize for any value that is no size of a heap."""
    if not is_number(value, 0, BIGGEST):
        raise BadSize(value)
