"""Small books have their tables soon, and just those that they have if all is reckoned that any book may need."""

import random
import time
import unittest

import oracle
from cases import Case
from freetakes.books import Book
from freetakes.compare import beside, compare, parted_alone
from freetakes.losing import last_loses
from freetakes.rules import Down, Fixed, Rule
from freetakes.tables import Table, table_of

# Rules whose worths come again early, and one that changes them first at a heap far behind.
LATE_CHANGES = [
    ("fixed 20, fixed 21", "fixed 22 rest 0 of 6"), ("fixed 20, fixed 21", "fixed 22 rest 0 of 5"), ("fixed 23, fixed 24", "fixed 25 rest 1 of 6"),
    ("fixed 11, fixed 12", "fixed 13 rest 5 of 6"), ("fixed 15, fixed 16", "fixed 17 rest 4 of 6"), ("fixed 100, fixed 101", "fixed 102 rest 0 of 6"),
    ("fixed 100, fixed 101", "fixed 102 rest 1 of 5"), ("fixed 122, fixed 123", "fixed 124 rest 3 of 6"),
]


def drawn_books(seed, count):
    """Books of up to six rules of sizes and leaves to twelve, whose begin and period come to at most forty."""
    rng = random.Random(seed)
    found = []
    while len(found) < count:
        book = Book.of(oracle.random_rules(rng, rng.randint(0, 6), 12, 12))
        rows = oracle.table(book.rules, 600)
        if rows is not None and sum(rows[:2]) <= 40:
            found.append(book)
    return found


class Answers(Case):
    def check(self, book, rows):
        """Check for this table at limits around it, and around those heaps that are looked at first."""
        total = sum(rows[:2])
        for most in {1, total - 1, total, total + 1, 49, 50, 51, 99, 100, 101, 199, 200, 201, 249, 250, 251, 499, 500, 501, 999, 1000}:
            if not 1 <= most <= 1000:
                continue
            if most < total:
                self.raised("TooMany", ["heaps", most], table_of, book, most)
            else:
                table = table_of(book, most)
                self.exactly((table.begin, table.period, table.numbers), rows)

    def test_drawn_books(self):
        for book in drawn_books(1, 150):
            self.check(book, oracle.table(book.rules))

    def test_begins_and_periods_around_the_first_heaps(self):
        for total in (48, 49, 50, 51, 52, 99, 100, 101, 200, 248, 249, 250, 251, 252):
            self.check(Book.plain(total - 1), (0, total, tuple(range(total))))
            self.check(Book(Down(total - 2)), (total - 1, 1, (0,) * (total - 1) + (1,)))
            self.check(Book(Fixed(1, leave=total - 2)), (total - 2, 2, (0,) * (total - 1) + (1,)))
            for text in (f"fixed 1, fixed {total - 1}", f"fixed 2 leave {total // 2}, fixed 3", f"fixed {total // 2}, down 1 rest 0 of 3",
                         f"fixed 1 rest 0 of 2, fixed {total // 4} leave {total // 4}", f"fixed 1 leave {total // 2}, fixed {total // 2} rest 0 of 5"):
                book = Book.read(text)
                rows = oracle.table(book.rules)
                if sum(rows[:2]) <= 1000:
                    self.check(book, rows)

    def test_starts_and_reaches_around_the_first_heaps(self):
        # Where the last rule stands late, all worths ahead of it are like those without it.
        for leave in (*range(36, 50), 97, 98, 99, 100, *range(236, 250), 399):
            for size in (1, 2, 12, 25):
                book = Book(Fixed(1, 0, 2), Fixed(size, leave=leave))
                self.check(book, oracle.table(book.rules))
        for to in (0, 24, 48, 49, 50, 51, 98, 99, 100, 101, 248, 249, 250, 251, 400):
            for rule in (Down(to), Down(to, to % 6, 6), Down(to, 1, 5)):
                book = Book(Fixed(1, 0, 2 if rule.modulus == 6 else 1), rule)
                self.check(book, oracle.table(book.rules))

    def test_worths_that_only_seem_to_come_again(self):
        changed = 0
        for text, last in LATE_CHANGES:
            seeming = Book.read(text)
            book = seeming | Rule.read(last)
            row, line = oracle.worths(book.rules, 800), oracle.worths(seeming.rules, 800)
            changed += row[:101] == line[:101] and row != line
            rows = oracle.table(book.rules)
            if sum(rows[:2]) <= 1000:
                self.check(book, rows)
            else:
                for most in (50, 100, 250, 500, 1000):
                    self.raised("TooMany", ["heaps", most], table_of, book, most)
        self.assertGreater(changed, 3)

    def test_books_and_comparisons(self):
        books = drawn_books(2, 60)
        for one, other in zip(books, books[1:]):
            row, line = oracle.worths(one.rules, 200), oracle.worths(other.rules, 200)
            heap = next((n for n in range(200) if row[n] != line[n]), None)
            alone = next((n for n in range(200) if (row[n] == 0) != (line[n] == 0)), None)
            self.exactly([bool(compare(one, other)), parted_alone(one, other)], [heap is None, alone])
            self.exactly(beside(one, other), None if heap is None else (heap, min(row[heap], line[heap])))
            self.exactly([one(n) for n in range(200)], row)
            self.assertEqual(one.as_table(), Table(*oracle.table(one.rules)))


class Speed(unittest.TestCase):
    def within(self, seconds, call, held):
        """Check that this is called for each of these within so many seconds: several times what is needed."""
        begin = time.process_time()
        for args in held:
            call(*args)
        self.assertLess(time.process_time() - begin, seconds, call)

    def test_a_thousand_small_tables(self):
        books = drawn_books(3, 500)
        # A book keeps its table only if it is asked for a worth: each of these is new.
        held = [(Book.of(book.rules),) for book in books + books]
        self.within(0.25, table_of, held)
        self.within(0.25, lambda book: book.as_table(), held)
        self.within(0.25, lambda book: book(10 ** 30), held)
        self.within(0.25, last_loses, held)
        pairs = [(one[0], other[0]) for one, other in zip(held, held[1:])]
        for call in (compare, parted_alone, beside):
            self.within(0.5, call, pairs)

    def test_late_and_refused_books(self):
        endless = Book(Fixed(390), Fixed(391), Fixed(392, 0, 6))

        def refused(book):
            with self.assertRaises(ValueError):
                table_of(book)
        self.within(1, refused, [(endless,)] * 100)
        late = [Book(Fixed(390), Fixed(391)), Book.plain(400), Book.read("fixed 2 rest 4 of 6, fixed 14"), Book(Fixed(7), Fixed(30), Fixed(101))]
        self.within(1, table_of, [(book,) for book in late * 25])


if __name__ == "__main__":
    unittest.main()
