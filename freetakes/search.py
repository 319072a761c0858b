"""Finding from which heap on what a book tells of its heaps comes again, and how often."""

from math import lcm

from freetakes.again import first_told, least_form
from freetakes.errors import TooMany

# Up to so many heaps small books have their begin and period together.
FEW = 50
MORE = 250


def come_again(book, most, tell):
    """The begin, the period and the first things, in least form, of what tell(book, count) tells of the heaps.

    Raises TooMany exactly if begin and period are above most together.
    """
    for half in halves(book, most):
        told = tell(book, 2 * half)
        period = fitting_period(told, half)
        if period is not None:
            begin, period = least_form(told[:half], half - period)
            end = end_of_looking(book, begin, period)
            if end > len(told):
                told = tell(book, end)
            if first_told(told[:begin + period], begin, end) == told[:end]:
                return begin, period, told[:begin + period]
    raise TooMany("heaps", most)


def halves(book, most):
    """The numbers up to which begin and period are looked for together: the last one, most, decides.

    The other ones let small books be answered soon, and cost little beside the last one.
    """
    # Where the rules do not stand early, what they tell hardly comes again early.
    late = int(book.start) + book.reach
    return [*[half for half in (FEW, MORE) if late <= half and 4 * half <= most], most]


def fitting_period(told, half):
    """The least period of 2 * half things that comes, with its begin, to at most half; None if there is none.

    It alone has to be tried: each other such period is a multiple of it, since both come again often
    enough here to have a common measure that fits, too; and where it fails further on, its multiples
    fail as well.
    """
    again = told[half:]
    last = told[-1]
    for period in range(1, half + 1):
        # Most periods fail at the last thing already.
        if told[-1 - period] == last and told[half - period:2 * half - period] == again:
            return period
    return None


def end_of_looking(book, begin, period):
    """The heap below which what begins and comes again so must be right to be the book's.

    All heaps behind it are like earlier ones.
    """
    return max(int(book.start), begin + book.reach) + lcm(period, book.modulus)
