"""Which rules of a book are needed, and books of the same worths with fewer rules."""

from freetakes.books import Book
from freetakes.bounds import check_size, is_from, is_number
from freetakes.duties import fewest_rules, kept_rules, needed_place, needed_places
from freetakes.errors import BadNumber, NotIn, TooMany
from freetakes.reckon import worths_below
from freetakes.rules import stands

MOST_RULES = 8
MOST_SHOWN = 20000


def serving(book, heap, worth):
    """The tuple of the rules of the book that serve the worth at the heap, in order."""
    check_size(heap)
    if not is_from(worth, 0):
        raise BadNumber(worth)
    table = book.as_table()
    return tuple([rule for rule in book.rules if stands(rule, heap) and table[rule.left_from(heap)] == worth])


def needed_at(book, rule):
    """The least heap at which the rule of the book is needed, and the worth that it serves there alone, or None."""
    if rule not in book:
        raise NotIn(rule)
    return needed_place(book, book.as_table(), rule)


def needless(book):
    """The tuple of the needless rules of the book, in order."""
    return tuple([rule for rule, place in zip(book.rules, needed_places(book, book.as_table())) if place is None])


def is_least(book):
    """Whether no rule of the book is needless."""
    return len(needless(book)) == 0


def least_book(book):
    """The book without the rules that prove needless if they are left out one by one, from the last one on."""
    return Book.of(kept_rules(book, book.as_table()))


def fewest(book):
    """The book of the fewest rules of the book that have the same worths; of several those with the least indexes."""
    if len(book) > MOST_RULES:
        raise TooMany("rules", MOST_RULES)
    return Book.of(fewest_rules(book, book.as_table()))


def shows_needed(book, rule, heap, worth):
    """Whether any value rule is a rule of the book that is needed at the heap for the worth, any values."""
    if rule not in book or not is_number(heap, 0, MOST_SHOWN):
        return False
    told = worths_below(book, heap + 1)
    if not is_number(worth, 0, told[heap] - 1):
        return False
    servers = [one for one in book.rules if stands(one, heap) and told[one.left_from(heap)] == worth]
    return len(servers) == 1 and servers[0] == rule
