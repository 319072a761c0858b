"""Tables of worths: the worths of the first heaps, and those that come again behind them."""

from freetakes.again import check_row, first_told, least_form, place_of
from freetakes.bounds import check_size, is_number
from freetakes.errors import BadNumber, BadTable, BadText
from freetakes.reckon import worths_below
from freetakes.search import come_again
from freetakes.walks import marked_heaps
from freetakes.words import number_of

MOST_WORTH = 400
MOST_WORTHS = 20000


class Table:
    """The worths of all heaps, in their least form."""

    MOST = 1000

    def __init__(self, begin, period, numbers):
        check_row(begin, period, numbers, "numbers")
        if not all([is_number(number, 0, MOST_WORTH) for number in numbers]) or numbers[0] != 0:
            raise BadTable("numbers")
        self.begin, self.period = least_form(numbers, begin)
        self.numbers = tuple(numbers[:self.begin + self.period])

    @classmethod
    def read(cls, text):
        """The table with this text, which need not be in least form."""
        if not isinstance(text, str):
            raise BadText(0, 0)
        words = text.split(" ")
        wrong = wrong_place(words)
        if wrong is not None:
            raise BadText(0, wrong)
        begin = words.index("|")
        numbers = [int(word) for word in words if word != "|"]
        return Table(begin, len(numbers) - begin, numbers)

    def __eq__(self, other):
        return (isinstance(other, Table) and self.begin == other.begin
                and self.period == other.period and self.numbers == other.numbers)

    def __str__(self):
        words = [str(number) for number in self.numbers]
        return " ".join([*words[:self.begin], "|", *words[self.begin:]])

    def __getitem__(self, at):
        check_size(at)
        return self.worth_of(at)

    def __call__(self, n):
        """The worth of the heap n."""
        return self[n]

    def __iter__(self):
        raise TypeError("the worths of a table have no end")

    @property
    def highest(self):
        """The greatest worth."""
        return max([int(number) for number in self.numbers])

    def heaps_of(self, worth, first=0):
        """The heaps that have this worth, ascending, from the heap first on."""
        if not is_number(worth, 0, MOST_WORTH):
            raise BadNumber(worth)
        check_size(first)
        ahead = [number == worth for number in self.numbers[:self.begin]]
        again = [number == worth for number in self.numbers[self.begin:]]
        yield from marked_heaps(ahead, again, first)

    def worth_of(self, n):
        """The worth of n, any integer from 0 on, also one that is too great for a heap."""
        return self.numbers[place_of(n, self.begin, self.period)]

    def first_worths(self, count):
        """The list of the worths of the heaps 0 to count - 1."""
        return first_told(self.numbers, self.begin, count)


def wrong_place(words):
    """The index of the first of these words that cannot stand in a table, or their number if one lacks; else None."""
    many = 0
    bar = None
    for at, word in enumerate(words):
        # Heap 0 has no take: the first worth, also if it stands behind the bar, is 0.
        most = 0 if at == 0 or (at == 1 and bar == 0) else MOST_WORTH
        if word == "|" and bar is None:
            bar = at
            many = 0
        elif many < Table.MOST and number_of(word, 0, most) is not None:
            many = many + 1
        else:
            return at
    return len(words) if bar is None or many == 0 else None


def worths(book, n):
    """The list of the worths of the heaps 0 to n - 1 by a book."""
    if not is_number(n, 0, MOST_WORTHS):
        raise BadNumber(n)
    return worths_below(book, n)


def table_of(book, most=1000):
    """The table of a book, if its begin and period are not above most together."""
    if not is_number(most, 1, Table.MOST):
        raise BadNumber(most)
    begin, period, numbers = come_again(book, most, worths_below)
    return Table(begin, period, numbers)
