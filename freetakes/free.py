"""Free rules: those that change no worth of a table, and the heaps at which the other ones are barred."""

from math import lcm

from freetakes.bounds import check_size
from freetakes.errors import BadBook
from freetakes.rules import Fixed, Rule
from freetakes.walks import marked_heaps


class FreeAnswer:
    """The base of the answers of free."""


class Free(FreeAnswer):
    """The rule is free."""

    def __init__(self, rule):
        self.rule = rule

    def __eq__(self, other):
        return isinstance(other, Free) and self.rule == other.rule

    def __bool__(self):
        return True


class Barred(FreeAnswer):
    """The rule is barred at the heap, where it leaves left, and at no lesser one."""

    def __init__(self, rule, heap, left):
        self.rule = rule
        self.heap = heap
        self.left = left

    def __eq__(self, other):
        return (isinstance(other, Barred) and self.rule == other.rule
                and self.heap == other.heap and self.left == other.left)

    def __bool__(self):
        return False


def free(table, rule):
    """Free, or Barred with the least heap at which the rule is barred by the table."""
    for heap in bars(table, rule):
        return Barred(rule, heap, rule.left_at(heap))
    return Free(rule)


def is_free(table, rule):
    """Whether the rule is free by the table."""
    ahead, again = barred_marks(table, rule)
    return not any(ahead) and not any(again)


def bars(table, rule, first=0):
    """The heaps at which the rule is barred by the table, ascending, from the heap first on."""
    check_size(first)
    ahead, again = barred_marks(table, rule)
    yield from marked_heaps(ahead, again, first)


def barred_marks(table, rule):
    """For each heap whether the rule is barred there: the marks of the first heaps, and those that come again."""
    # From here on the rule stands, and the heaps that it leaves come again, too.
    behind = rule.start + table.begin
    end = behind + lcm(table.period, rule.modulus)
    told = table.first_worths(end)
    marks = [False for _ in range(end)]
    first = rule.start + (rule.rest - rule.start) % rule.modulus
    for heap in range(first, end, rule.modulus):
        marks[heap] = told[heap] == told[rule.left_from(heap)]
    return marks[:behind], marks[behind:]


def least_leave(table, size, rest=0, modulus=1):
    """The least leave with which the rule that takes size at the heaps of this rest is free; None if there is none."""
    rule = Fixed(size, rest, modulus)
    ahead, again = barred_marks(table, rule)
    if any(again):
        return None
    # The leave must be above the heap that is left at each heap where the rule is barred.
    return max([int(heap - size + 1) for heap in range(len(ahead)) if ahead[heap]], default=0)


def free_among(table, *rules):
    """The tuple of those of these rules that are free by the table."""
    for at, rule in enumerate(rules):
        if not isinstance(rule, Rule):
            raise BadBook(at)
    return tuple([rule for rule in rules if is_free(table, rule)])
