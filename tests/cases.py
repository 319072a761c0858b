"""What the tests share: any values, and the checking of errors."""

import unittest

from freetakes import errors
from freetakes.books import Book
from freetakes.desk import Desk
from freetakes.errors import BadRule, BadText, FreeError
from freetakes.greatest import Greatest
from freetakes.keeper import Keeper
from freetakes.losing import LastTable
from freetakes.made import Made, Unmade
from freetakes.matches import Match
from freetakes.piles import Pile, Plain
from freetakes.positions import Position
from freetakes.rules import Down, Fixed
from freetakes.sizes import Sizes
from freetakes.tables import Table
from freetakes.winners import Kept

BIG = 10 ** 30

FIELDS = {
    "BadRule": ("part",), "BadBook": ("at",), "BadSize": ("value",), "BadTable": ("part",),
    "BadSizes": ("part",), "BadNumber": ("value",), "NoTake": ("number",), "NoPile": ("index",),
    "NotFree": ("rule",), "Meets": ("heap", "left"), "Needed": ("rule",), "Lacks": ("heap", "worth"),
    "NotIn": ("rule",), "Nothing": (), "BadLimit": ("value",), "TooMany": ("what", "most"),
    "BadText": ("line", "word"), "NoLine": ("word",),
}


def no_integers():
    """Values of all kinds but integers."""
    return [
        None, True, False, "", "0", "1", "400", "fixed 1", "down 0", "| 0", "a\nb", "x" * 2000, (), (0,), (1, 2),
        [], [0], [1, [2, (3, {})]], {}, {0: 1}, {"size": [1]}, Fixed(1), Fixed(4, 1, 3, 2), Down(0), Book(),
        Book(Fixed(1)), Table(0, 1, [0]), Sizes.every(), Sizes((False,), (True, False)), Greatest(Table(0, 2, [0, 1])),
        LastTable(0, 2, [True, False]), Kept(Fixed(1)), BadRule("size"), BadText(0, 0),
        Made(Book()), Unmade("heap", 2, 0), Pile(1, Book(Fixed(1))), Plain(1), Position(), Position(Plain(3)), Match(Position(Plain(1))),
        Keeper(Book()), Desk(),
    ]


def beyond(least, most):
    """Values that are no integers from least to most: integers just below and above, far ones, other kinds."""
    return [least - 1, least - 1000, -10 ** 39, most + 1, most * 2 + 5, 10 ** 39, *no_integers()]


def no_heaps():
    return beyond(0, BIG)


def no_rules():
    return [value for value in [*no_integers(), 0, 1, -5, 10 ** 39] if not isinstance(value, (Fixed, Down))]


class Case(unittest.TestCase):
    def raised(self, kind, fields, call, *args, **named):
        """Check that the call raises an error of just this class with just these fields."""
        with self.assertRaises(FreeError) as caught:
            call(*args, **named)
        error = caught.exception
        self.assertIs(type(error), getattr(errors, kind), (args, named))
        self.assertEqual(len(FIELDS[kind]), len(fields))
        for name, wanted in zip(FIELDS[kind], fields):
            got = getattr(error, name)
            self.assertIs(type(got), type(wanted), (kind, name, got, args, named))
            self.assertTrue(got is wanted or got == wanted, (kind, name, got, wanted, args, named))

    def raised_from(self, kind, fields, cause, told, call, *args, **named):
        """As raised, and check that the error has a cause of just this class with just these fields."""
        self.raised(kind, fields, call, *args, **named)
        try:
            call(*args, **named)
        except FreeError as error:
            found = error.__cause__
        self.assertIs(type(found), getattr(errors, cause))
        self.exactly([getattr(found, name) for name in FIELDS[cause]], list(told))

    def exactly(self, got, wanted):
        """Check for equal values of equal kinds, also within lists and tuples."""
        self.assertEqual(got, wanted)
        self.assertIs(type(got), type(wanted), (got, wanted))
        if isinstance(wanted, (list, tuple)):
            for mine, yours in zip(got, wanted):
                self.exactly(mine, yours)
