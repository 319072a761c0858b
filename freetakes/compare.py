"""Comparing two books, or tables, by their worths, their winners and their takes."""

from math import lcm

from freetakes.bounds import is_number
from freetakes.reckon import worths_below
from freetakes.tables import Table

MOST_SHOWN = 20000


class Comparison:
    """The base of the answers of compare."""


class Alike(Comparison):
    """All heaps have the same worths."""

    def __eq__(self, other):
        return isinstance(other, Alike)

    def __bool__(self):
        return True


class Parted(Comparison):
    """The heap is the least one with unlike worths, which are first and second."""

    def __init__(self, heap, first, second):
        self.heap = heap
        self.first = first
        self.second = second

    def __eq__(self, other):
        return (isinstance(other, Parted) and self.heap == other.heap
                and self.first == other.first and self.second == other.second)

    def __bool__(self):
        return False


def compare(one, other):
    """Alike, or Parted with the least heap that has unlike worths."""
    for heap, (first, second) in enumerate(deciding_worths(one, other)):
        if first != second:
            return Parted(heap, first, second)
    return Alike()


def parted_alone(one, other):
    """The least heap of which just one of the two worths is 0; None if there is none."""
    for heap, (first, second) in enumerate(deciding_worths(one, other)):
        if (first == 0) != (second == 0):
            return heap
    return None


def beside(one, other):
    """The least heap with unlike worths and the lesser one of them; None if there is none."""
    for heap, (first, second) in enumerate(deciding_worths(one, other)):
        if first != second:
            return heap, min(int(first), second)
    return None


def same_takes(one, other):
    """The least heap at which the two books have unlike takes; None if there is none."""
    # Behind this heap no Down rule takes what a Fixed one takes, and all rules stand.
    behind = max(int(one.start), other.start) + max(int(one.reach), other.reach)
    for heap in range(behind + lcm(one.modulus, other.modulus)):
        if one.lefts(heap) != other.lefts(heap):
            return heap
    return None


def shows_parted(one, other, heap, first, second):
    """Whether the heap is the least one with unlike worths, and these are first and second."""
    if not is_number(heap, 0, MOST_SHOWN):
        return False
    ours = worths_by(one, heap + 1)
    theirs = worths_by(other, heap + 1)
    if ours[heap] == theirs[heap] or ours[:heap] != theirs[:heap]:
        return False
    return is_number(first, ours[heap], ours[heap]) and is_number(second, theirs[heap], theirs[heap])


def deciding_worths(one, other):
    """The pairs of worths of the least heaps, as many as decide about all heaps."""
    ours = table_by(one)
    theirs = table_by(other)
    # Rows that both come again and agree for the sum of their periods agree without end.
    count = max(int(ours.begin), theirs.begin) + ours.period + theirs.period
    return list(zip(ours.first_worths(count), theirs.first_worths(count)))


def table_by(thing):
    """The table that a Book or a Table stands for."""
    return thing if isinstance(thing, Table) else thing.as_table()


def worths_by(thing, count):
    """The worths of the heaps 0 to count - 1 by a Book, without its table, or by a Table."""
    return thing.first_worths(count) if isinstance(thing, Table) else worths_below(thing, count)
