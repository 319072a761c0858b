"""The greatest book of a table: all pairs of a heap and a lesser one with unlike worths."""

from freetakes.again import count_among
from freetakes.bounds import check_size, is_from, is_number
from freetakes.errors import BadNumber, BadSize, BadTable
from freetakes.free import is_free
from freetakes.free_sizes import free_sizes
from freetakes.reckon import least_missing
from freetakes.rules import Rule
from freetakes.tables import Table
from freetakes.walks import marked_numbers

MOST_GIVEN = 300


class Greatest:
    """From each heap each lesser one of another worth may be left."""

    def __init__(self, table):
        if not isinstance(table, Table):
            raise BadTable("table")
        self.table = table

    def __eq__(self, other):
        return isinstance(other, Greatest) and self.table == other.table

    def __contains__(self, x):
        if isinstance(x, Rule):
            return is_free(self.table, x)
        return is_pair(x) and self.table.worth_of(x[0]) != self.table.worth_of(x[1])

    def lets(self, n, left):
        """Whether left may be left from the heap n."""
        check_size(n)
        if not is_number(left, 0, n - 1):
            raise BadSize(left)
        return self.table[n] != self.table[left]

    def has(self, book):
        """Whether all rules of the book are in this one."""
        return all([is_free(self.table, rule) for rule in book.rules])

    def each_take(self, n):
        """The numbers that can be taken from the heap n, ascending."""
        check_size(n)
        table = self.table
        worth = table[n]
        unlike = [number != worth for number in table.numbers]
        # The heaps left descend: first those that come again, then those below begin.
        again = [unlike[table.begin + (n - take - table.begin) % table.period] for take in range(table.period)]
        for take in marked_numbers([], again, 1):
            if take > n - table.begin:
                break
            yield take
        for left in range(min(n, int(table.begin)) - 1, -1, -1):
            if unlike[left]:
                yield n - left

    def many(self, n):
        """How many numbers can be taken from the heap n."""
        check_size(n)
        table = self.table
        return n - count_among(table.numbers, table.begin, table[n], n)

    def sizes(self, rest=0, modulus=1, leave=0):
        """The sizes of all free takes at the heaps of this rest, if at least leave is left."""
        return free_sizes(self.table, rest, modulus, leave)


def is_pair(thing):
    """Whether any value is a tuple of an integer and a lesser one from 0 on."""
    return isinstance(thing, tuple) and len(thing) == 2 and is_from(thing[1], 0) and is_from(thing[0], thing[1] + 1)


def given_back(greatest, n):
    """The list of the worths of the heaps 0 to n - 1 if just the takes of the greatest book are let."""
    if not is_number(n, 0, MOST_GIVEN):
        raise BadNumber(n)
    told = greatest.table.first_worths(n)
    found = []
    for heap, number in enumerate(told):
        lefts = [worth for left, worth in enumerate(found) if told[left] != number]
        found.append(least_missing(lefts))
    return found
