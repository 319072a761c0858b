"""Size sets: sets of sizes of takes whose membership comes again from some size on."""

from math import lcm

from freetakes.again import count_among, first_told, least_form
from freetakes.bounds import BIGGEST, is_from, is_number
from freetakes.errors import BadNumber, BadSizes, BadText, TooMany
from freetakes.walks import marked_numbers

MOST_MULTIPLE = 400


class Sizes:
    """A set of integers from 1 on, told by two rows of bools, in its least form."""

    MOST = 1000

    def __init__(self, ahead, again):
        check_rows(ahead, again)
        told = (*ahead, *again)
        begin, period = least_form(told, len(ahead))
        self.ahead = told[:begin]
        self.again = told[begin:begin + period]

    @staticmethod
    def every():
        """The set of all sizes."""
        return Sizes((), (True,))

    @staticmethod
    def none():
        """The set without a size."""
        return Sizes((), (False,))

    @staticmethod
    def multiples(m):
        """The set of the multiples of m."""
        if not is_number(m, 1, MOST_MULTIPLE):
            raise BadNumber(m)
        return Sizes((), [size == m for size in range(1, m + 1)])

    @classmethod
    def read(cls, text):
        """The size set with this text, which must be in least form."""
        rows = rows_in(text)
        if rows is None:
            raise BadText(0, 0)
        read = Sizes([sign == "1" for sign in rows[0]], [sign == "1" for sign in rows[1]])
        if str(read) != text:
            raise BadText(0, 0)
        return read

    def __eq__(self, other):
        return isinstance(other, Sizes) and self.ahead == other.ahead and self.again == other.again

    def __str__(self):
        return f"{figures(self.ahead)}({figures(self.again)})"

    def __bool__(self):
        return any(self.ahead) or any(self.again)

    def __contains__(self, x):
        if not is_from(x, 1):
            return False
        place = x - 1
        if place < len(self.ahead):
            return self.ahead[place]
        return self.again[(place - len(self.ahead)) % len(self.again)]

    def __and__(self, other):
        rows, ahead = common_rows(self, other)
        return parted_sizes([mine and yours for mine, yours in rows], ahead)

    def __or__(self, other):
        rows, ahead = common_rows(self, other)
        return parted_sizes([mine or yours for mine, yours in rows], ahead)

    def __sub__(self, other):
        rows, ahead = common_rows(self, other)
        return parted_sizes([mine and not yours for mine, yours in rows], ahead)

    def __xor__(self, other):
        rows, ahead = common_rows(self, other)
        return parted_sizes([mine != yours for mine, yours in rows], ahead)

    def __invert__(self):
        return parted_sizes([not bit for bit in self.ahead + self.again], len(self.ahead))

    def is_part_of(self, other):
        """Whether each size of this set is one of other, too."""
        return not bool(self - other)

    def first_from(self, least=1):
        """The least size from least on; None if there is none."""
        for size in self.walk(least):
            return size
        return None

    def walk(self, least=1):
        """The sizes from least on, ascending, without a bound."""
        if not is_number(least, 1, BIGGEST):
            raise BadNumber(least)
        # Here the marks are counted from 0 on, and there is no size 0.
        marks = (False, *self.ahead)
        yield from marked_numbers(marks, self.again, least)

    def count_to(self, most):
        """How many sizes are at most most."""
        if not is_number(most, 0, BIGGEST):
            raise BadNumber(most)
        return count_among(self.ahead + self.again, len(self.ahead), True, most)


def check_rows(ahead, again):
    """Raise BadSizes, or then TooMany, if these values are no rows of a size set."""
    if not is_row(ahead):
        raise BadSizes("ahead")
    if not is_row(again) or len(again) == 0:
        raise BadSizes("again")
    if len(ahead) + len(again) > Sizes.MOST:
        raise TooMany("sizes", Sizes.MOST)


def is_row(thing):
    """Whether any value is a list or tuple of bools."""
    return isinstance(thing, (list, tuple)) and all([isinstance(bit, bool) for bit in thing])


def figures(row):
    """The bools of a row as figures 0 and 1."""
    return "".join(["1" if bit else "0" for bit in row])


def rows_in(text):
    """The figures of both rows that any value tells of; None if it has not the form of a text of a size set."""
    if not isinstance(text, str) or len(text) > Sizes.MOST + 2 or text[-1:] != ")":
        return None
    ahead, _, rest = text.partition("(")
    again = rest[:-1]
    if again == "" or not all([sign in "01" for sign in ahead + again]):
        return None
    return ahead, again


def common_rows(one, other):
    """The pairs of bools of two size sets for the sizes that decide about all, and how many of them are ahead.

    Raises BadSizes if the other one, any value, is none; then TooMany if they are too many.
    """
    if not isinstance(other, Sizes):
        raise BadSizes("other")
    ahead = max(len(one.ahead), len(other.ahead))
    count = ahead + lcm(len(one.again), len(other.again))
    if count > Sizes.MOST:
        raise TooMany("sizes", Sizes.MOST)
    return list(zip(first_bools(one, count), first_bools(other, count))), ahead


def first_bools(sizes, count):
    """The bools of the sizes from 1 to count."""
    return first_told(sizes.ahead + sizes.again, len(sizes.ahead), count)


def parted_sizes(row, ahead):
    """The size set of these bools, of which those behind the first ahead ones come again."""
    return Sizes(row[:ahead], row[ahead:])
