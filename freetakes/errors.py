"""The errors of the package: one class for each kind of failure, all directly below FreeError.

Each error is made with its fields, of any values, and keeps them in attributes of the same names.
"""


class FreeError(ValueError):
    """The base of all errors of the package."""


class BadRule(FreeError):
    """A part of a rule is wrong."""

    def __init__(self, part):
        self.part = part


class BadBook(FreeError):
    """What stands at an index is no rule, or something (None, or the only thing: 0) is no book."""

    def __init__(self, at):
        self.at = at


class BadSize(FreeError):
    """A value is no size of a heap."""

    def __init__(self, value):
        self.value = value


class BadTable(FreeError):
    """A part of a table is wrong."""

    def __init__(self, part):
        self.part = part


class BadSizes(FreeError):
    """A part of a size set is wrong."""

    def __init__(self, part):
        self.part = part


class BadNumber(FreeError):
    """A value is no integer, or beyond its bounds."""

    def __init__(self, value):
        self.value = value


class NoTake(FreeError):
    """A number cannot be taken, or nothing can be taken by a rule from a heap of this number."""

    def __init__(self, number):
        self.number = number


class NoPile(FreeError):
    """There is no pile with this index."""

    def __init__(self, index):
        self.index = index


class NotFree(FreeError):
    """A rule is not free."""

    def __init__(self, rule):
        self.rule = rule


class Meets(FreeError):
    """A heap and the heap that is left there have the same worth: the cause of NotFree."""

    def __init__(self, heap, left):
        self.heap = heap
        self.left = left


class Needed(FreeError):
    """A rule of a book is needed."""

    def __init__(self, rule):
        self.rule = rule


class Lacks(FreeError):
    """At a heap no other rule serves a worth: the cause of Needed."""

    def __init__(self, heap, worth):
        self.heap = heap
        self.worth = worth


class NotIn(FreeError):
    """A value is no rule of the book."""

    def __init__(self, rule):
        self.rule = rule


class Nothing(FreeError):
    """There is nothing to take back."""


class BadLimit(FreeError):
    """A value cannot be the limit of a keeper."""

    def __init__(self, value):
        self.value = value


class TooMany(FreeError):
    """There is more of something than may be."""

    def __init__(self, what, most):
        self.what = what
        self.most = most


class BadText(FreeError):
    """In a text, the word with this index of the line with this index cannot stand, or lacks."""

    def __init__(self, line, word):
        self.line = line
        self.word = word


class NoLine(FreeError):
    """In a line of a desk, the word with this index cannot stand, or lacks."""

    def __init__(self, word):
        self.word = word
