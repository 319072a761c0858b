"""Looking whether a told table is that of a book."""

from freetakes.reckon import least_missing
from freetakes.rules import Fixed, stands
from freetakes.tables import Table, end_of_looking


def shows_table(book, thing):
    """Whether any value is the table of the book."""
    if not isinstance(thing, Table):
        return False
    told = thing.first_worths(end_of_looking(book, thing))
    steps = [steps_behind(book, rest) for rest in range(book.modulus)]
    for heap, worth in enumerate(told):
        if heap < book.start:
            lefts = book.lefts(heap)
        else:
            sizes, places = steps[heap % book.modulus]
            lefts = [heap - size for size in sizes] + places
        if least_missing([told[left] for left in lefts]) != worth:
            return False
    return True


def steps_behind(book, rest):
    """The sizes that are taken, and the heaps that are left, at each heap of this rest from book.start on."""
    heap = book.start + (rest - book.start) % book.modulus
    standing = [rule for rule in book.rules if stands(rule, heap)]
    sizes = sorted(set([int(rule.size) for rule in standing if isinstance(rule, Fixed)]))
    places = sorted(set([int(rule.to) for rule in standing if not isinstance(rule, Fixed)]))
    return sizes, places
