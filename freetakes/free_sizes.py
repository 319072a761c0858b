"""The sizes of all takes that are free by a table, however great they are."""

from math import lcm

from freetakes.bits import heaps_by_worth, heaps_of_rest
from freetakes.errors import BadTable, TooMany
from freetakes.rules import Fixed
from freetakes.sizes import Sizes
from freetakes.tables import Table

MOST_HEAPS = 400


def free_sizes(table, rest=0, modulus=1, leave=0):
    """The size set of all takes that are free by the table at the heaps of this rest, if at least leave is left."""
    if not isinstance(table, Table):
        raise BadTable("table")
    # It raises what a rule of any size would raise for these values.
    rule = Fixed(1, rest, modulus, leave)
    again = lcm(table.period, modulus)
    if table.begin + again > MOST_HEAPS:
        raise TooMany("heaps", MOST_HEAPS)
    # A take of begin or more comes from heaps of which all worths come again.
    ahead = max(0, table.begin - 1)
    row = free_row(table, rule, ahead + again)
    return Sizes(row[:ahead], row[ahead:])


def free_row(table, rule, count):
    """For each take from 1 to count whether the rule that takes it, and is otherwise like this one, is free."""
    # From here on the heaps left come again, with the worths and the rests of the heaps that they are left from.
    lefts = max(int(rule.leave), table.begin) + lcm(table.period, rule.modulus)
    told = table.first_worths(lefts + count)
    standing = heaps_of_rest(rule.rest, rule.modulus, 0, len(told))
    alike = [heaps & standing for heaps in heaps_by_worth(told)]
    barred = 0
    for left in range(rule.leave, lefts):
        barred = barred | (alike[told[left]] >> left)
    return [(barred >> size) & 1 == 0 for size in range(1, count + 1)]


def shows_sizes(table, rest, modulus, leave, thing):
    """Whether any value is the size set that free_sizes tells."""
    found = free_sizes(table, rest, modulus, leave)
    return isinstance(thing, Sizes) and thing == found
