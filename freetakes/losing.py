"""Single heaps of which whoever takes last loses: who wins them."""

from freetakes.again import MOST, check_row, first_told, least_form, place_of
from freetakes.bounds import check_size, is_number
from freetakes.errors import BadNumber, BadTable
from freetakes.lefts import lefts_by, steps_of
from freetakes.reckon import wins_below
from freetakes.search import come_again, end_of_looking


class LastTable:
    """For all heaps whether who is to move wins, in the least form."""

    def __init__(self, begin, period, truths):
        check_row(begin, period, truths, "truths")
        # At the heap 0 nothing can be taken.
        if not all([isinstance(truth, bool) for truth in truths]) or not truths[0]:
            raise BadTable("truths")
        self.begin, self.period = least_form(truths, begin)
        self.truths = tuple(truths[:self.begin + self.period])

    def __eq__(self, other):
        return (isinstance(other, LastTable) and self.begin == other.begin
                and self.period == other.period and self.truths == other.truths)

    def __str__(self):
        figures = "".join(["1" if truth else "0" for truth in self.truths])
        ahead = f"{figures[:self.begin]} " if self.begin > 0 else ""
        return f"{ahead}| {figures[self.begin:]}"

    def __getitem__(self, at):
        check_size(at)
        return self.truths[place_of(at, self.begin, self.period)]

    def __iter__(self):
        raise TypeError("the truths of a last table have no end")

    def first_truths(self, count):
        """The list of the truths of the heaps 0 to count - 1."""
        return first_told(self.truths, self.begin, count)


def last_loses(book, most=1000):
    """The last table of a book, if its begin and period are not above most together."""
    if not is_number(most, 1, MOST):
        raise BadNumber(most)
    begin, period, truths = come_again(book, most, wins_below)
    return LastTable(begin, period, truths)


def saving_takes(book, last, n):
    """The tuple of the takes of the book at the heap n behind which the other one loses by the last table."""
    return tuple([take for take in book.takes(n) if not last[n - take]])


def shows_last(book, thing):
    """Whether any value is the last table of the book."""
    if not isinstance(thing, LastTable):
        return False
    told = thing.first_truths(end_of_looking(book, thing.begin, thing.period))
    steps = steps_of(book)
    for heap, truth in enumerate(told):
        lefts = lefts_by(book, steps, heap)
        if truth != (len(lefts) == 0 or not all([told[left] for left in lefts])):
            return False
    return True
