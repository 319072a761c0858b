"""Piles and plain ones: what can be taken, their worths, their signs and their errors."""

import itertools
import random

import oracle
from cases import BIG, Case, beyond, no_heaps, no_integers
from freetakes.books import Book
from freetakes.errors import TooMany
from freetakes.piles import Pile, Plain
from freetakes.positions import Position
from freetakes.rules import Down, Fixed

STEPS = Book(Fixed(1), Fixed(2))
# Its worths do not come again within 1,000 heaps.
ENDLESS = Book(Fixed(400), Fixed(399), Fixed(7, 0, 4), Fixed(1, 1, 3))


def random_pile(rng, most=20):
    size = rng.randint(0, most)
    if rng.random() < 0.3:
        return Plain(size)
    return Pile(size, Book.of(oracle.random_rules(rng, rng.randint(0, 5))))


def plain_takes(pile):
    if pile.book is None:
        return list(range(1, pile.size + 1))
    return sorted({pile.size - k for k in oracle.lefts(pile.book.rules, pile.size)})


class TestPiles(Case):
    def test_what_can_be_taken(self):
        rng = random.Random(1)
        for _ in range(300):
            pile = random_pile(rng)
            takes = plain_takes(pile)
            self.exactly(list(pile.each_take()), takes)
            self.assertIs(bool(pile), bool(takes))
            for k in range(-3, pile.size + 4):
                self.assertIs(pile.lets(k), k in takes)
                if k in takes:
                    self.same(pile - k, pile, pile.size - k)
                else:
                    self.raised("NoTake", (k,), lambda: pile - k)

    def same(self, found, pile, size):
        """Check that found has this size, and is otherwise like the pile."""
        self.assertIs(type(found), type(pile))
        self.exactly(found.size, size)
        self.assertIs(found.book, pile.book)

    def test_worths(self):
        rng = random.Random(2)
        for _ in range(200):
            pile = random_pile(rng, 40)
            wanted = pile.size if pile.book is None else oracle.worths(pile.book.rules, pile.size + 1)[-1]
            self.exactly(pile.its_worth(), wanted)
        self.exactly(Plain(BIG).its_worth(), BIG)
        self.exactly(Pile(BIG, STEPS).its_worth(), 1)
        self.exactly(Pile(BIG, Book()).its_worth(), 0)

    def test_worths_without_a_table(self):
        with self.assertRaises(TooMany):
            ENDLESS.as_table()
        for size in (0, 5, BIG):
            self.raised("TooMany", ("heaps", 1000), Pile(size, ENDLESS).its_worth)
        pile = Pile(800, ENDLESS)
        self.assertEqual(list(pile.each_take()), plain_takes(pile))
        self.same(pile - 400, pile, 400)

    def test_great_sizes(self):
        for book in (STEPS, Book(Down(0), Fixed(400), Down(7, 1, 3))):
            pile = Pile(BIG, book)
            self.assertEqual(list(pile.each_take()), plain_takes(pile))
        self.assertTrue(Pile(BIG, Book(Down(0))).lets(BIG))
        takes = Plain(BIG).each_take()
        self.assertEqual([next(takes) for _ in range(5)], [1, 2, 3, 4, 5])
        self.same(Plain(BIG) - (BIG - 3), Plain(0), 3)
        self.raised("NoTake", (BIG + 1,), lambda: Plain(BIG) - (BIG + 1))
        self.assertTrue(Plain(BIG).lets(BIG) and not Plain(BIG).lets(BIG + 1) and not Plain(BIG).lets(0))
        self.assertEqual(bool(Plain(BIG)) + bool(Plain(1)) + bool(Plain(0)), 2)
        self.assertTrue(bool(Pile(2, Book(Fixed(1, leave=1)))) and not bool(Pile(1, Book(Fixed(1, leave=1)))))

    def test_attributes_and_errors(self):
        pile = Pile(size=7, book=STEPS)
        self.exactly(pile.size, 7)
        self.assertIs(pile.book, STEPS)
        self.assertIs(Plain(size=7).book, None)
        self.assertIsInstance(Plain(7), Pile)
        for size in no_heaps():
            self.raised("BadSize", (size,), Pile, size, None)
            self.raised("BadSize", (size,), Plain, size)
        for book in [*no_integers(), 0, 1]:
            if not isinstance(book, Book):
                for size in (0, 1, BIG):
                    self.raised("BadBook", (None,), Pile, size, book)
        for size in (0, 1, BIG - 1, BIG):
            self.exactly(Pile(size, STEPS).size, size)
            self.exactly(Plain(size).size, size)

    def test_wrong_takes(self):
        for pile in (Pile(7, STEPS), Plain(7), Pile(0, STEPS), Plain(0), Pile(BIG, STEPS)):
            for k in [*no_integers(), 0, -1, BIG + 1, 10 ** 39, -10 ** 39]:
                self.assertIs(pile.lets(k), False)
                self.raised("NoTake", (k,), lambda: pile - k)
        self.raised("NoTake", (3,), lambda: Pile(7, STEPS) - 3)
        self.raised("NoTake", (8,), lambda: Plain(7) - 8)
        self.assertTrue(Pile(7, STEPS).lets(1) and not Pile(7, STEPS).lets(True) and not Plain(7).lets(True))

    def test_more(self):
        for pile in (Pile(7, STEPS), Plain(7), Pile(7, Book())):
            for k in (0, 1, 10 ** 20, BIG - 7):
                self.same(pile + k, pile, 7 + k)
            self.raised("BadSize", (BIG + 1,), lambda: pile + (BIG - 6))
            self.raised("BadSize", (BIG + 7,), lambda: pile + BIG)
            for k in beyond(0, BIG):
                self.raised("BadNumber", (k,), lambda: pile + k)
        self.same(Plain(0) + BIG, Plain(0), BIG)

    def test_quotients_and_rests(self):
        for size, m in itertools.product((0, 1, 7, 8, 10 ** 20, BIG), (1, 2, 3, 7, 10 ** 20, BIG)):
            for pile in (Pile(size, STEPS), Plain(size)):
                self.exactly([pile // m, pile % m], [size // m, size % m])
        for pile in (Pile(7, STEPS), Plain(7)):
            for m in beyond(1, BIG):
                self.raised("BadNumber", (m,), lambda: pile // m)
                self.raised("BadNumber", (m,), lambda: pile % m)

    def test_in_place(self):
        for first in (Pile(7, STEPS), Plain(7)):
            pile = first
            pile -= 2
            self.same(pile, first, 5)
            pile += 10
            self.same(pile, first, 15)
            self.assertEqual(first.size, 7)
            self.assertIsNot(pile, first)
            pile //= 4
            self.exactly(pile, 3)

    def test_order(self):
        other_book = Book(Fixed(2), Fixed(1))
        for size, more in itertools.product((0, 1, 5, BIG), (0, 1, 5, BIG)):
            for one, other in ((Pile(size, STEPS), Pile(more, other_book)), (Plain(size), Plain(more))):
                found = [one < other, one <= other, one > other, one >= other]
                self.exactly(found, [size < more, size <= more, size > more, size >= more])
        unlike = [Pile(1, STEPS), Pile(1, Book(Fixed(1))), Plain(1), Pile(1, Book())]
        for one, other in itertools.permutations(unlike, 2):
            self.raised("BadBook", (None,), lambda: one < other)
            self.raised("BadBook", (None,), lambda: one <= other)
            self.raised("BadBook", (None,), lambda: one > other)
            self.raised("BadBook", (None,), lambda: one >= other)
        for one in (Plain(3), Pile(3, STEPS)):
            for other in [*no_integers(), 3, 10 ** 39]:
                if not isinstance(other, type(one)) or other.book != one.book:
                    self.raised("BadBook", (None,), lambda: one < other)
                    self.raised("BadBook", (None,), lambda: one <= other)

    def test_equal(self):
        self.assertTrue(Pile(7, STEPS) == Pile(7, Book.plain(2)))
        self.assertTrue(Plain(7) == Plain(7))
        # The same takes, and so worths, make no equal books.
        for other in (Pile(8, STEPS), Plain(7), Pile(7, STEPS | Fixed(4)), Pile(7, Book(Fixed(1), Fixed(2, 0, 2), Fixed(2, 1, 2)))):
            self.assertTrue(Pile(7, STEPS) != other and not other == Pile(7, STEPS))
        self.assertTrue(Plain(7) != Plain(6) and Plain(7) != Pile(7, Book()))
        for other in [*no_integers(), 7]:
            self.assertFalse(Pile(7, STEPS) == other or Plain(7) == other)

    def test_texts(self):
        self.exactly(str(Pile(7, STEPS)), "7 by fixed 1, fixed 2")
        self.exactly(str(Pile(0, Book())), "0 by -")
        self.exactly(str(Plain(7)), "plain 7")
        self.exactly(str(Plain(BIG)), f"plain {BIG}")

    def test_side_by_side(self):
        one, other = Pile(7, STEPS), Plain(3)
        found = one ^ other
        self.assertIs(type(found), Position)
        self.exactly([pile is wanted for pile, wanted in zip(found.piles, (one, other))], [True, True])
        self.assertEqual(len(other ^ one ^ one), 3)
        for thing in [*no_integers(), 5]:
            if not isinstance(thing, (Pile, Position)):
                self.raised("NoPile", (None,), lambda: one ^ thing)
                self.raised("NoPile", (None,), lambda: other ^ thing)
        full = Position.of([other] * 20)
        self.raised("TooMany", ("piles", 20), lambda: one ^ full)
        self.assertEqual(len(one ^ Position.of([other] * 19)), 20)


if __name__ == "__main__":
    import unittest
    unittest.main()
