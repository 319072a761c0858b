"""Looking whether a told table is that of a book."""

from freetakes.lefts import lefts_by, steps_of
from freetakes.reckon import least_missing
from freetakes.search import end_of_looking
from freetakes.tables import Table


def shows_table(book, thing):
    """Whether any value is the table of the book."""
    if not isinstance(thing, Table):
        return False
    told = thing.first_worths(end_of_looking(book, thing.begin, thing.period))
    steps = steps_of(book)
    for heap, worth in enumerate(told):
        if least_missing([told[left] for left in lefts_by(book, steps, heap)]) != worth:
            return False
    return True
