"""Keepers: books that are changed while their worths stay."""

from math import lcm

from freetakes.books import MOST_COMMON, Book
from freetakes.bounds import is_number
from freetakes.duties import kept_rules, needed_place
from freetakes.errors import (BadBook, BadLimit, BadNumber, BadRule, Lacks, Meets, Needed, NotFree, Nothing, NotIn,
                              TooMany)
from freetakes.free import free
from freetakes.free_sizes import free_row
from freetakes.rules import Fixed, Rule
from freetakes.trials import Trial


class Keeper:
    """A book whose worths stay. Its state has the book, the limit and the text of each change, the beginning first."""

    def __init__(self, book, *, limit=40):
        if not isinstance(book, Book):
            raise BadBook(0)
        check_limit(limit, book)
        self.table = book.as_table()
        self.state = ((book, limit, ""),)

    @property
    def now(self):
        """The book as it is now."""
        return self.state[-1][0]

    @property
    def limit(self):
        """How many rules the book may have."""
        return self.state[-1][1]

    @limit.setter
    def limit(self, value):
        self.set_limit(value)

    @property
    def log(self):
        """The texts of the changes that are not taken back."""
        return tuple([change[2] for change in self.state[1:]])

    def __len__(self):
        return len(self.now)

    def __contains__(self, x):
        return x in self.now

    def __iadd__(self, other):
        self.add(other)
        return self

    def __isub__(self, other):
        self.drop(other)
        return self

    def add(self, rule):
        """Put in a free rule, and return whether it is new."""
        if not isinstance(rule, Rule):
            raise BadRule("rule")
        if rule in self.now:
            return False
        book = self.now | rule
        check_many(len(book), self.limit)
        check_free(self.table, rule)
        self.change(book, f"add {rule}")
        return True

    def drop(self, rule):
        """Take out a needless rule."""
        if rule not in self.now:
            raise NotIn(rule)
        check_needless(self.now, self.table, rule)
        self.change(self.now - rule, f"drop {rule}")

    def exchange(self, old, new):
        """Put a free rule in and take one out that is needless then."""
        if old not in self.now:
            raise NotIn(old)
        if not isinstance(new, Rule):
            raise BadRule("rule")
        if new == old:
            return
        both = self.now | new
        if new not in self.now:
            check_free(self.table, new)
        check_needless(both, self.table, old)
        self.change(both - old, f"exchange {old} / {new}")

    def thin(self):
        """Go to the least book, and return the tuple of the rules that went."""
        least = Book.of(kept_rules(self.now, self.table))
        gone = self.now - least
        if gone:
            self.change(least, f"thin {len(gone)}")
        return gone.rules

    def fill(self, most, rest=0, modulus=1):
        """Put in all free rules that take 1 to most at the heaps of this rest; return the tuple of the new ones."""
        if not is_number(most, 1, Rule.MOST):
            raise BadNumber(most)
        # It raises what a rule of any size would raise for these values.
        least = Fixed(1, rest, modulus)
        if lcm(self.now.modulus, modulus) > MOST_COMMON:
            raise TooMany("modulus", MOST_COMMON)
        row = free_row(self.table, least, most)
        rules = [Fixed(at + 1, rest, modulus) for at, bit in enumerate(row) if bit]
        new = [rule for rule in rules if rule not in self.now]
        check_many(len(self.now) + len(new), self.limit)
        if new:
            self.change(Book.of([*self.now.rules, *new]), f"fill {len(new)}")
        return tuple(new)

    def set_limit(self, value):
        """Set how many rules the book may have."""
        check_limit(value, self.now)
        if value != self.limit:
            self.state = (*self.state, (self.now, value, f"limit {value}"))

    def undo(self):
        """Take back the last change that was not taken back."""
        if len(self.state) == 1:
            raise Nothing()
        self.state = self.state[:-1]

    def trial(self):
        """A block behind which the keeper is as it was at its begin."""
        return Trial(self)

    def tried(self, ask):
        """What ask, called with the keeper, returns in such a block."""
        with self.trial() as held:
            return ask(held)

    def change(self, book, text):
        """Go to another book, by a change that has this text."""
        self.state = (*self.state, (book, self.limit, text))


def check_limit(value, book):
    """Raise BadLimit for any value that cannot be the limit of a keeper with this book."""
    if not is_number(value, len(book), Book.MOST):
        raise BadLimit(value)


def check_many(many, limit):
    """Raise TooMany if the limit does not let so many rules stand."""
    if many > limit:
        raise TooMany("rules", limit)


def check_free(table, rule):
    """Raise NotFree if the rule is not free by the table."""
    answer = free(table, rule)
    if not answer:
        raise NotFree(rule) from Meets(answer.heap, answer.left)


def check_needless(book, table, rule):
    """Raise Needed if the rule of the book, whose table it is, is needed."""
    place = needed_place(book, table, rule)
    if place is not None:
        raise Needed(rule) from Lacks(place[0], place[1])
