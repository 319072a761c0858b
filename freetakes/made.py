"""Made tables: those of books whose rules all have one given modulus."""

from freetakes.books import Book
from freetakes.bounds import is_number
from freetakes.errors import BadNumber, BadSize, TooMany
from freetakes.look_tables import shows_table
from freetakes.reach import MOST_ASKED, Reach, common_period
from freetakes.rules import Rule

MOST_HEAPS = 30
MOST_WORTH = 6


class Making:
    """The base of the answers of made."""


class Made(Making):
    """The table is that of this book."""

    def __init__(self, book):
        self.book = book

    def __eq__(self, other):
        return isinstance(other, Made) and self.book == other.book

    def __bool__(self):
        return True


class Unmade(Making):
    """At the heap (kind "heap"), or for good from this heap on (kind "class"), the worth cannot be reached."""

    def __init__(self, kind, heap, worth):
        self.kind = kind
        self.heap = heap
        self.worth = worth

    def __eq__(self, other):
        return (isinstance(other, Unmade) and self.kind == other.kind
                and self.heap == other.heap and self.worth == other.worth)

    def __bool__(self):
        return False


def made(table, modulus):
    """Made with a book with rules of this modulus alone whose table it is, or Unmade with what cannot be reached."""
    reach = reach_of(table, modulus)
    for heap in range(reach.behind):
        worth = reach.unreached(heap)
        if worth is not None:
            return Unmade("heap", heap, worth)
    for heap in range(reach.begin, reach.end):
        worth = reach.unreached_for_good(heap)
        if worth is not None:
            return Unmade("class", heap, worth)
    return Made(Book.of(reach.making_rules()))


def ways(table, modulus, heap, worth):
    """The tuple of the free rules, of those to be looked at, that lead from the heap to a heap of this worth."""
    reach = reach_of(table, modulus)
    if not is_number(heap, 0, MOST_ASKED):
        raise BadSize(heap)
    if not is_number(worth, 0, reach.told[heap] - 1):
        raise BadNumber(worth)
    return tuple(reach.ways_to(heap, worth))


def moduli_of(table):
    """The ascending tuple of the moduli with which the table is made, but for those that are too great for it."""
    check_worths(table)
    moduli = range(1, Rule.MOST_MODULUS + 1)
    return tuple([modulus for modulus in moduli if heaps_with(table, modulus) <= MOST_HEAPS and made(table, modulus)])


def shows_made(table, modulus, thing):
    """Whether any value is a book with rules of this modulus alone whose table it is."""
    check_modulus(modulus)
    if not isinstance(thing, Book) or not all([rule.modulus == modulus for rule in thing.rules]):
        return False
    return shows_table(thing, table)


def shows_unmade(table, modulus, kind, heap, worth):
    """Whether, for any values, the worth cannot be reached at the heap, or for good, as the kind says."""
    reach = reach_of(table, modulus)
    if not isinstance(kind, str) or kind not in ("heap", "class"):
        return False
    first = 0 if kind == "heap" else reach.begin
    if not is_number(heap, first, first + MOST_ASKED) or not is_number(worth, 0, reach.told[heap] - 1):
        return False
    return worth not in (reach.reached(heap) if kind == "heap" else reach.lasting_ways(heap))


def check_modulus(modulus):
    """Raise BadNumber for any value that is no modulus."""
    if not is_number(modulus, 1, Rule.MOST_MODULUS):
        raise BadNumber(modulus)


def check_worths(table):
    """Raise TooMany if a heap has too great a worth."""
    if table.highest > MOST_WORTH:
        raise TooMany("worth", MOST_WORTH)


def heaps_with(table, modulus):
    """How many heaps there are ahead of those at which both the worths and the rests come again."""
    return table.begin + common_period(table, modulus)


def reach_of(table, modulus):
    """What the free rules of the modulus, any value, lead to; raises what all but two of the functions raise."""
    check_modulus(modulus)
    if heaps_with(table, modulus) > MOST_HEAPS:
        raise TooMany("heaps", MOST_HEAPS)
    check_worths(table)
    return Reach(table, modulus)
