"""worths, shows_needed and shows_parted up to 20,000 heaps, against plain answers made heap by heap."""

import random
import time
import unittest
from unittest import mock

import oracle
from cases import Case
from freetakes import reckon, windows
from freetakes.books import Book
from freetakes.compare import shows_parted
from freetakes.needless import shows_needed
from freetakes.rules import Down, Fixed
from freetakes.tables import worths

ENDS = (0, 1, 19999, 20000)
FEW = 400
NAMED = [Book(Fixed(1, 0, 2), Down(3)), *[Book(Fixed(size)) for size in (1, 6, 7, 32, 160, 400)]]


def moved(text, by):
    """The rules of a book of Fixed rules, all heaps moved up."""
    rules = Book.read(text).rules
    return Book(*[Fixed(rule.size, (rule.rest + by) % rule.modulus, rule.modulus, rule.leave + by) for rule in rules])


def drawn_books(seed, many):
    """Books of a few rules with both kinds, moduli from 1 to 6, leaves, some of them with far sizes and places."""
    rng = random.Random(seed)
    books = []
    while len(books) < many:
        most, size, place = rng.choice([(2, 3, 5), (4, 8, 12), (6, 12, 40), (5, 70, 60), (4, 400, 20), (5, 400, 400)])
        books.extend(oracle.random_books(rng.random(), 1, most, size, place))
    return books


class ManyHeaps(Case):
    def needed_alike(self, book, heap, found):
        """Check shows_needed at a heap for all rules of the book and all worths that can be."""
        for rule in book.rules:
            wanted = oracle.needed(book.rules, rule, heap, found)
            for worth in range(found[heap] + 2):
                self.exactly(shows_needed(book, rule, heap, worth), worth == wanted)

    def parted_alike(self, one, other, heap, row, line):
        """Check shows_parted at a heap of two books with these worths."""
        first, second = row[heap], line[heap]
        parted = first != second and row[:heap] == line[:heap]
        self.exactly(shows_parted(one, other, heap, first, second), parted)
        self.exactly(shows_parted(one, other, heap, second, first), False)
        self.exactly([shows_parted(one, other, heap, first + 1, second), shows_parted(one, other, heap, first, second + 1)], [False] * 2)

    def test_books_drawn_are_of_all_kinds(self):
        rules = [rule for book in drawn_books(1, 250) for rule in book.rules]
        self.assertEqual({rule.modulus for rule in rules if isinstance(rule, Down)}, {1, 2, 3, 4, 5, 6})
        self.assertEqual({rule.modulus for rule in rules if isinstance(rule, Fixed) and rule.leave}, {1, 2, 3, 4, 5, 6})

    def test_up_to_some_hundreds(self):
        rng = random.Random(2)
        for book in drawn_books(1, 250):
            found = oracle.worths(book.rules, FEW)
            for count in (0, 1, 2, rng.randrange(FEW), FEW):
                self.exactly(worths(book, count), found[:count])
            self.needed_alike(book, 0, found)
            self.needed_alike(book, rng.randrange(FEW), found)

    def test_parted_up_to_some_hundreds(self):
        rng = random.Random(3)
        shown = 0
        for book in drawn_books(4, 200):
            other = Book.of([*book.rules[1:], oracle.random_rule(rng, [book.modulus if book.modulus < 7 else 1], 8, 300)])
            row, line = oracle.worths(book.rules, FEW), oracle.worths(other.rules, FEW)
            least = next((n for n in range(FEW) if row[n] != line[n]), None)
            shown += least is not None
            for heap in {least, 0, FEW - 1, rng.randrange(FEW)} - {None}:
                self.parted_alike(book, other, heap, row, line)
        self.assertTrue(shown > 50)

    def test_beyond_some_thousands(self):
        rng = random.Random(5)
        for book in drawn_books(6, 60):
            found = oracle.worths(book.rules, 3200)
            for count in (reckon.MANY - 1, reckon.MANY, reckon.MANY + 1, rng.randrange(3200), 3200):
                self.exactly(worths(book, count), found[:count])
            self.needed_alike(book, rng.randrange(1000, 3200), found)

    def test_ends(self):
        for book in [*NAMED[:2], NAMED[-1], *drawn_books(7, 14)]:
            found = oracle.worths(book.rules, 20001)
            for count in ENDS:
                self.exactly(worths(book, count), found[:count])
            for heap in ENDS:
                self.needed_alike(book, heap, found)

    def test_parted_at_the_ends(self):
        # Not moved, these two are parted first at 19966.
        texts = "fixed 363, fixed 377 rest 2 of 4", "fixed 363, fixed 377 rest 2 of 4, fixed 367 rest 2 of 4 leave 200"
        pairs = [(moved(texts[0], by), moved(texts[1], by)) for by in (33, 34)]
        pairs += [(Book(), Book(Fixed(1))), (Book(), Book(Down(0, 4, 5))), (NAMED[0], NAMED[1]), (NAMED[3], NAMED[3])]
        for one, other in pairs:
            row, line = oracle.worths(one.rules, 20001), oracle.worths(other.rules, 20001)
            for heap in ENDS:
                self.parted_alike(one, other, heap, row, line)
        shown = [[heap for heap in ENDS if shows_parted(one, other, heap, one(heap), other(heap))] for one, other in pairs[2:]]
        self.assertEqual(shown, [[1], [], [1], []])
        one, other = pairs[0]
        row, line = worths(one, 20000), worths(other, 20000)
        self.exactly([shows_parted(one, other, heap, row[heap], line[heap]) for heap in ENDS[:3]], [False, False, True])


class Windows(Case):
    """The way of many heaps taken for few ones, so that many borders of windows and many books come to be seen."""

    def alike(self, book, count):
        with mock.patch.object(reckon, "MANY", -10 ** 9):
            found = worths(book, count)
        self.exactly(found, oracle.worths(book.rules, count))

    def test_drawn_books(self):
        rng = random.Random(8)
        for least in (60, windows.LEAST):
            with mock.patch.object(windows, "LEAST", least):
                for book in drawn_books(rng.random(), 150):
                    self.alike(book, rng.choice([0, 1, 60, 240, 299, FEW, 900]))

    def test_reaches_and_widths(self):
        for size in (59, 60, 61, 239, 240, 241, 399, 400):
            self.alike(Book(Fixed(size), Fixed(size - 1, 1, 2), Fixed(3, 2, 3, 7), Down(2, 0, 4)), 1500)

    def test_book_without_rules(self):
        self.alike(Book(), 700)
        self.exactly(worths(Book(), 20000), [0] * 20000)

    def test_rules_that_stand_late(self):
        for book in (Book(Fixed(1, 0, 1, 400)), Book(Down(400)), Book(Down(400, 3, 4), Fixed(400, 1, 6, 400), Fixed(2))):
            for count in (800, 801, 802, 1700):
                self.alike(book, count)
            self.exactly(worths(book, 3500), oracle.worths(book.rules, 3500))

    def test_worths_that_come_first_in_a_later_window(self):
        book = Book(Fixed(46, 0, 2), Fixed(244, 4, 6), Fixed(359, 4, 6), Fixed(360))
        self.assertEqual([worths(book, 2000).index(worth) for worth in range(5)], [0, 46, 280, 430, 1138])
        self.alike(book, 2000)
        book = Book(Fixed(284), Fixed(367), Down(4, 3, 6))
        self.assertEqual([worths(book, 2000).index(worth) for worth in range(4)], [0, 9, 371, 855])
        self.alike(book, 2000)

    def test_great_books(self):
        rng = random.Random(9)
        books = [Book.plain(400)]
        for moduli, size in (([1], 12), ([1, 2, 3, 4, 6], 400), ([4, 6], 60), ([5, 2], 400)):
            books.append(Book.of([oracle.random_rule(rng, moduli, size, 400) for _ in range(400)]))
        for book in books:
            self.alike(book, 1600)
        self.exactly(worths(books[0], 20000), [n % 401 for n in range(20000)])


class Speed(Case):
    def seconds(self, call, *args):
        """The least time of some calls."""
        least = None
        for _ in range(4):
            begin = time.process_time()
            call(*args)
            took = time.process_time() - begin
            least = took if least is None else min(least, took)
        return least

    def test_in_less_than_half_of_the_time(self):
        for book in NAMED:
            together = self.seconds(reckon.worths_together, book, 20000)
            self.assertLess(self.seconds(worths, book, 20000), together / 2)
        for book in NAMED[1:]:
            together = self.seconds(reckon.worths_together, book, 20001)
            self.assertLess(self.seconds(shows_needed, book, book.rules[0], 20000, 0), together / 2)

    def test_few_heaps_as_before(self):
        # Windows are not begun where they would cost more than they save.
        with mock.patch.object(reckon, "Windows", side_effect=AssertionError):
            self.exactly(worths(NAMED[0], 999), oracle.worths(NAMED[0].rules, 999))
            self.exactly(worths(Book.plain(400), 2000), [n % 401 for n in range(2000)])
            self.assertRaises(AssertionError, worths, NAMED[0], 1205)


if __name__ == "__main__":
    unittest.main()
