import random
import unittest

import oracle
from cases import Case, beyond
from freetakes.books import Book
from freetakes.rules import Down, Fixed
from freetakes.tables import Table, table_of, worths

# The worths of the first one, without the last rule, come again with the period 781; the last rule changes the heap
# 4686 first. The other ones likewise, at the heaps 3905, 3606, 2005 and 800.
SEEMING = [
    ((Fixed(390), Fixed(391)), Fixed(392, 0, 6), 4686),
    ((Fixed(390), Fixed(391)), Fixed(392, 0, 5), 3905),
    ((Fixed(300), Fixed(301)), Fixed(302, 0, 6), 3606),
    ((Fixed(200), Fixed(201)), Fixed(202, 0, 5), 2005),
    ((Fixed(1),), Fixed(400, leave=400), 800),
]

# Books whose worths come again late, found by searching: with begin and period.
LATE = [
    ("fixed 2 rest 4 of 6, fixed 14", 0, 504),
    ("fixed 9 rest 0 of 3, fixed 10 rest 3 of 6, fixed 12 leave 19, fixed 12 rest 2 of 6, fixed 14, down 17 rest 0 of 2", 334, 24),
    ("fixed 2 rest 0 of 6, fixed 7 rest 2 of 6, fixed 12 rest 4 of 6, fixed 13 rest 4 of 6, fixed 14, down 1 rest 1 of 2", 3, 924),
    ("fixed 2 rest 1 of 2 leave 19, fixed 12 leave 10, fixed 14 leave 1", 18, 936),
    ("fixed 5 rest 1 of 2, fixed 6 leave 10, fixed 7 rest 3 of 5, fixed 9, fixed 14", 590, 230),
]


class Worths(Case):
    def test_by_the_definition(self):
        for book in [*oracle.random_books(1, 120, 8, 12, 20), Book(), Book(Down(0)), Book.plain(5)]:
            wanted = oracle.worths(book.rules, 150)
            self.exactly(worths(book, 150), wanted)
            for n in (0, 1, 2, 3, 7, 149):
                self.exactly(worths(book, n), wanted[:n])

    def test_great_rules(self):
        rng = random.Random(2)
        for _ in range(6):
            rules = [oracle.random_rule(rng, [1, 2, 3, 4, 6], 400, 400) for _ in range(rng.choice([5, 40, 400]))]
            self.exactly(worths(Book.of(rules[:400]), 1500), oracle.worths(rules[:400], 1500))

    def test_many_heaps(self):
        pair = Book(Fixed(1), Fixed(4))
        self.exactly(worths(pair, 20000), [0, 1, 0, 1, 2] * 4000)
        self.exactly(worths(n=3, book=pair), [0, 1, 0])
        self.exactly(worths(Book.plain(400), 20000), [n % 401 for n in range(20000)])

    def test_the_list_belongs_to_the_caller(self):
        pair = Book(Fixed(1), Fixed(4))
        worths(pair, 5).append(9)
        self.exactly(worths(pair, 5), [0, 1, 0, 1, 2])

    def test_errors(self):
        for wrong in beyond(0, 20000):
            self.raised("BadNumber", [wrong], worths, Book(Fixed(1)), wrong)


class TableOf(Case):
    def check(self, book, begin, period, numbers):
        """Check for this table, with the limits that let it, and with those that do not."""
        total = begin + period
        for most in {1, 2, total // 2, total - 1, total, total + 1, 2 * total, 1000}:
            if not 1 <= most <= 1000:
                continue
            if most < total:
                self.raised("TooMany", ["heaps", most], table_of, book, most)
            else:
                table = table_of(book, most)
                self.assertIs(type(table), Table)
                self.exactly((table.begin, table.period, table.numbers), (begin, period, numbers))

    def test_small_books(self):
        for book in oracle.random_books(3, 250):
            wanted = oracle.table(book.rules)
            if wanted is None:
                self.raised("TooMany", ["heaps", 1000], table_of, book)
            else:
                self.check(book, *wanted)

    def test_worths_far_beyond(self):
        for book in oracle.random_books(4, 60, 6, 12, 40):
            row = oracle.worths(book.rules, 3000)
            wanted = oracle.table(book.rules)
            if wanted is not None and sum(wanted[:2]) <= 1000:
                table = table_of(book)
                self.exactly([table[n] for n in range(3000)], row)

    def test_late_books(self):
        for text, begin, period in LATE:
            book = Book.read(text)
            wanted = oracle.table(book.rules)
            self.assertEqual(wanted[:2], (begin, period))
            self.check(book, *wanted)

    def test_too_late_books(self):
        for text in ("fixed 390, fixed 391, fixed 392 rest 0 of 6", "fixed 5, fixed 399, fixed 400", "fixed 2 rest 1 of 2, fixed 400 leave 400"):
            book = Book.read(text)
            row = oracle.worths(book.rules, 6000)
            for begin in range(0, 1000):
                for period in (1, 2, 3, 781, 1000 - begin):
                    if begin + period <= 1000:
                        self.assertFalse(row[begin:-period] == row[begin + period:])
            for most in (1, 500, 1000):
                self.raised("TooMany", ["heaps", most], table_of, book, most)

    def test_worths_that_only_seem_to_come_again(self):
        for rules, last, heap in SEEMING:
            seeming, book = Book(*rules), Book(*rules, last)
            row = worths(book, heap + 1)
            self.assertEqual(row[:heap], worths(seeming, heap))
            self.assertNotEqual(row[heap], worths(seeming, heap + 1)[heap])
            wrong = table_of(seeming)
            for most in (wrong.begin + wrong.period, 1000):
                try:
                    self.assertEqual(table_of(book, most)[heap], row[heap])
                except ValueError as error:
                    self.assertEqual((error.what, error.most), ("heaps", most))

    def test_just_at_the_limit(self):
        # A heap of this begin stands alone; behind it the worths come again at once.
        self.check(Book(Down(400)), 401, 1, (0,) * 401 + (1,))
        self.check(Book(Fixed(400, leave=400)), 400, 800, (0,) * 800 + (1,) * 400)
        self.check(Book(Fixed(400)), 0, 800, (0,) * 400 + (1,) * 400)
        self.check(Book(Fixed(400), Down(399)), *oracle.table((Fixed(400), Down(399))))
        self.check(Book(Fixed(1, leave=399)), 399, 2, (0,) * 400 + (1,))
        self.check(Book(Fixed(300, leave=400)), 400, 600, (0,) * 700 + (1,) * 300)
        for size in (199, 200, 201, 250, 300, 301):
            book = Book(Fixed(size, leave=400))
            self.check(book, 400, 2 * size, (0,) * (400 + size) + (1,) * size)
            if size <= 300:
                self.assertEqual([table_of(book), book.as_table()], [table_of(book, 1000)] * 2)
                self.exactly(book(400 + size), 1)
            else:
                self.raised("TooMany", ["heaps", 1000], table_of, book)
                self.raised("TooMany", ["heaps", 1000], book.as_table)
                self.raised("TooMany", ["heaps", 1000], book, 0)

    def test_the_modulus_plays_no_part(self):
        for book in (Book(Fixed(1, 0, 3), Fixed(1, 1, 3), Fixed(1, 2, 3)), Book(Fixed(1, 0, 6), Fixed(1))):
            self.check(book, 0, 2, (0, 1))
        self.check(Book(Down(0, 0, 3), Down(0, 1, 3), Down(0, 2, 3)), 1, 1, (0, 1))
        self.check(Book(), 0, 1, (0,))

    def test_great_books(self):
        self.check(Book.plain(400), 0, 401, tuple(range(401)))
        self.check(Book.of([Down(to) for to in range(400)]), 400, 1, tuple(range(401)))
        rng = random.Random(7)
        for moduli in ([1], [6], [4, 6], [5]):
            rules = [oracle.random_rule(rng, moduli, 12, 400) for _ in range(400)]
            wanted = oracle.table(rules)
            self.check(Book.of(rules), *wanted)

    def test_limits(self):
        for wrong in beyond(1, 1000):
            self.raised("BadNumber", [wrong], table_of, Book(Fixed(1)), wrong)
            self.raised("BadNumber", [wrong], table_of, Book(Fixed(400), Fixed(399), Fixed(5)), most=wrong)
        self.assertEqual(table_of(book=Book(Fixed(1)), most=2), Table(0, 2, [0, 1]))


if __name__ == "__main__":
    unittest.main()
