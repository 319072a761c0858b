import operator
import unittest

import oracle
from cases import Case, no_rules
from freetakes.books import Book
from freetakes.rules import Down, Fixed
from oracle import many_rules, place

SIGNS = [
    (operator.or_, operator.ior, lambda one, other: one | other),
    (operator.and_, operator.iand, lambda one, other: one & other),
    (operator.sub, operator.isub, lambda one, other: one - other),
    (operator.xor, operator.ixor, lambda one, other: one ^ other),
]


def places(thing):
    return {place(rule) for rule in (thing.rules if isinstance(thing, Book) else (thing,))}


class Sets(Case):
    def test_books_and_rules(self):
        rules = [Fixed(1), Fixed(2), Fixed(1, 0, 2), Fixed(1, leave=1), Down(0), Down(1, 1, 2), Fixed(3)]
        books = [Book.of([rule for at, rule in enumerate(rules) if bits >> at & 1]) for bits in range(0, 128, 5)]
        for one in books:
            for other in [*books, *rules]:
                for sign, in_place, wanted in SIGNS:
                    before, other_before = one.rules, places(other)
                    got = sign(one, other)
                    self.assertIs(type(got), Book)
                    self.assertEqual([place(rule) for rule in got.rules], sorted(wanted(places(one), places(other))))
                    name = one
                    name = in_place(name, other)
                    self.assertEqual(name, got)
                    self.assertEqual((one.rules, places(other)), (before, other_before))

    def test_in_place_binds_a_new_book(self):
        book = old = Book(Fixed(1), Fixed(2))
        book |= Down(0)
        self.assertEqual((str(book), str(old)), ("fixed 1, fixed 2, down 0", "fixed 1, fixed 2"))
        book &= Book(Fixed(2), Down(0))
        self.assertEqual(str(book), "fixed 2, down 0")
        book -= Fixed(2)
        self.assertEqual(str(book), "down 0")
        book ^= Book(Down(0), Fixed(5))
        self.assertEqual((str(book), str(old)), ("fixed 5", "fixed 1, fixed 2"))

    def test_other_values(self):
        for one in (Book(), Book(Fixed(1)), Book.of(many_rules(400))):
            for wrong in [*no_rules(), [Fixed(1)], (Fixed(1),), "fixed 1"]:
                if isinstance(wrong, Book):
                    continue
                for sign, in_place, _ in SIGNS:
                    self.raised("BadBook", [0], sign, one, wrong)
                    self.raised("BadBook", [0], in_place, one, wrong)

    def test_too_many(self):
        full, three, five = Book.of(many_rules(400)), Book(Fixed(1, 0, 3)), Book(Fixed(1, 0, 5))
        for sign in (operator.or_, operator.xor):
            self.raised("TooMany", ["modulus", 12], sign, three, five)
            self.raised("TooMany", ["modulus", 12], sign, three, Fixed(1, 0, 5))
            self.raised("TooMany", ["rules", 400], sign, full, Fixed(1, 0, 1, 77))
            self.raised("TooMany", ["rules", 400], sign, full, Book(Fixed(1, 0, 1, 77)))
        # Both would be too many: the modulus is told first.
        two_and_five = Book(Fixed(1, 0, 1, 77), Fixed(1, 0, 5))
        fours = Book.of([*many_rules(399), Fixed(1, 0, 4)])
        self.raised("TooMany", ["modulus", 12], operator.or_, fours, two_and_five)
        self.assertEqual(full | full, full)
        self.assertEqual(full ^ full, Book())
        self.assertEqual(three & five, Book())
        self.assertEqual(three - five, three)

    def test_laws(self):
        books = oracle.random_books(8, 12, 4, 2, 1)
        for one in books:
            self.assertEqual((one | Book(), one & Book(), one - Book(), one ^ Book()), (one, Book(), one, one))
            self.assertEqual((one | one, one & one, one - one, one ^ one), (one, one, Book(), Book()))


if __name__ == "__main__":
    unittest.main()
