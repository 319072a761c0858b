"""Looking whether a rule is free, or barred, by a told table that is that of a book."""

from freetakes.bounds import is_number
from freetakes.free import free, is_free
from freetakes.look_tables import shows_table
from freetakes.rules import Rule


def shows_free(book, rule, thing):
    """Whether any value is the table of the book, and any value rule a rule that is free by it."""
    return isinstance(rule, Rule) and shows_table(book, thing) and is_free(thing, rule)


def shows_barred(book, rule, thing, heap, left):
    """Whether any value is the table of the book, and the rule is barred by it first at heap, where it leaves left."""
    if not isinstance(rule, Rule) or not shows_table(book, thing):
        return False
    answer = free(thing, rule)
    if answer:
        return False
    return is_number(heap, answer.heap, answer.heap) and is_number(left, answer.left, answer.left)
