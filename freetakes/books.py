"""Books: finite sets of rules."""

from math import lcm

from freetakes.bounds import check_size, is_number
from freetakes.errors import BadBook, BadNumber, BadText, TooMany
from freetakes.rules import Fixed, Rule, in_order, rule_of, stands, wrong_word
from freetakes.tables import Table, table_of

MOST_COMMON = 12


class Book:
    """A finite set of rules."""

    MOST = 400

    def __init__(self, *rules):
        for at, rule in enumerate(rules):
            if not isinstance(rule, Rule):
                raise BadBook(at)
        modulus = 1
        for rule in rules:
            modulus = lcm(modulus, rule.modulus)
        if modulus > MOST_COMMON:
            raise TooMany("modulus", MOST_COMMON)
        unlike = in_order(rules)
        if len(unlike) > Book.MOST:
            raise TooMany("rules", Book.MOST)
        self.rules = tuple(unlike)
        self.modulus = modulus
        self.start = max([int(rule.start) for rule in unlike], default=0)
        self.reach = max([int(rule.size) for rule in unlike if isinstance(rule, Fixed)], default=0)
        self._ranks = {rule.rank: True for rule in unlike}
        self._table = None
        self._endless = False

    @classmethod
    def of(cls, rules):
        """The book of the rules of a list or tuple."""
        if not isinstance(rules, (list, tuple)):
            raise BadBook(None)
        return Book(*rules)

    @staticmethod
    def plain(most):
        """The book by which any number from 1 to most may be taken."""
        if not is_number(most, 0, Book.MOST):
            raise BadNumber(most)
        return Book.of([Fixed(size) for size in range(1, most + 1)])

    @classmethod
    def read(cls, text):
        """The book with this text, its rules in any order."""
        if not isinstance(text, str):
            raise BadText(0, 0)
        if text == "-":
            return Book()
        rules = []
        ahead = 0
        for part in text.split(", "):
            words = part.split(" ")
            wrong = wrong_word(words)
            if wrong is not None:
                raise BadText(0, ahead + wrong)
            rules.append(rule_of(words))
            ahead = ahead + len(words)
        return Book(*rules)

    def __eq__(self, other):
        return isinstance(other, Book) and self.rules == other.rules

    def __str__(self):
        if not self.rules:
            return "-"
        return ", ".join([str(rule) for rule in self.rules])

    def __len__(self):
        return len(self.rules)

    def __bool__(self):
        return bool(self.rules)

    def __contains__(self, x):
        return isinstance(x, Rule) and x.rank in self._ranks

    def __or__(self, other):
        held = book_of(other)
        return Book.of([*self.rules, *held.rules])

    def __and__(self, other):
        held = book_of(other)
        return Book.of([rule for rule in self.rules if rule in held])

    def __sub__(self, other):
        held = book_of(other)
        return Book.of([rule for rule in self.rules if rule not in held])

    def __xor__(self, other):
        held = book_of(other)
        mine = [rule for rule in self.rules if rule not in held]
        return Book.of([*mine, *[rule for rule in held.rules if rule not in self]])

    def __call__(self, n):
        """The worth of the heap n."""
        check_size(n)
        return self.own_table()[n]

    def takes(self, n):
        """The numbers that can be taken from the heap n, ascending."""
        return tuple([n - left for left in self.lefts(n)[::-1]])

    def lefts(self, n):
        """The heaps that can be left at the heap n, ascending."""
        check_size(n)
        return tuple(sorted(set([int(rule.left_from(n)) for rule in self.rules if stands(rule, n)])))

    def is_part_of(self, other):
        """Whether each rule of this book is one of other, too."""
        if not isinstance(other, Book):
            raise BadBook(0)
        return all([rule in other for rule in self.rules])

    def as_table(self, most=1000):
        """The table of this book."""
        return self.own_table() if is_number(most, Table.MOST, Table.MOST) else table_of(self, most)

    def own_table(self):
        """The table of this book, reckoned once, since a book never changes, or the error if it is too great."""
        if self._table is None and not self._endless:
            try:
                self._table = table_of(self)
            except TooMany:
                self._endless = True
        if self._endless:
            raise TooMany("heaps", Table.MOST)
        return self._table


def book_of(thing):
    """The book that a Book or a Rule, as an operand, stands for; raises BadBook(0) for any other value."""
    return thing if isinstance(thing, Book) else Book(thing)
