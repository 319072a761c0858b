"""Who wins with a single heap, and the rules that keep the winners."""

from freetakes.bounds import BIGGEST, is_number
from freetakes.free import barred_marks
from freetakes.rules import stands


class WinnersAnswer:
    """The base of the answers of keeps_winners."""


class Kept(WinnersAnswer):
    """The rule keeps the winners."""

    def __init__(self, rule):
        self.rule = rule

    def __eq__(self, other):
        return isinstance(other, Kept) and self.rule == other.rule

    def __bool__(self):
        return True


class Turned(WinnersAnswer):
    """The heap, the least such one, and the heap left there by the rule have both the worth 0."""

    def __init__(self, rule, heap, left):
        self.rule = rule
        self.heap = heap
        self.left = left

    def __eq__(self, other):
        return (isinstance(other, Turned) and self.rule == other.rule
                and self.heap == other.heap and self.left == other.left)

    def __bool__(self):
        return False


def keeps_winners(table, rule):
    """Kept, or Turned with the least heap of worth 0 at which the rule leaves a heap of worth 0."""
    ahead, again = barred_marks(table, rule)
    marks = ahead + again
    for heap, worth in enumerate(table.first_worths(len(marks))):
        if worth == 0 and marks[heap]:
            return Turned(rule, heap, rule.left_from(heap))
    return Kept(rule)


def shows_turned(table, rule, heap, left):
    """Whether any values heap and left are heaps of the worth 0, and the rule leaves left at heap."""
    if not is_number(heap, 0, BIGGEST) or not stands(rule, heap):
        return False
    wanted = rule.left_from(heap)
    return is_number(left, wanted, wanted) and table[heap] == 0 and table[left] == 0


def lost_heaps(table, first=0):
    """The heaps of the worth 0, ascending, from the heap first on."""
    yield from table.heaps_of(0, first)
