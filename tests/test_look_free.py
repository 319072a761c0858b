import random
import unittest

import oracle
from cases import Case, no_integers, no_rules
from freetakes.books import Book
from freetakes.look_free import shows_barred, shows_free
from freetakes.rules import Down, Fixed
from freetakes.tables import Table
from test_look_tables import tables_of_books

FAR = 600
PAIR = Book(Fixed(1), Fixed(4))
TABLE = Table(0, 5, (0, 1, 0, 1, 2))
OTHERS = [Table(0, 2, [0, 1]), Table(0, 5, (0, 1, 0, 1, 3)), Table(1, 5, (0, 1, 0, 1, 2, 1)), Table(0, 1, [0])]


def first_bar(row, rule):
    """The least heap of these worths at which the rule is barred, and the heap left; None if there is none."""
    for n in range(len(row)):
        if oracle.stands(rule, n) and row[n] == row[oracle.left(rule, n)]:
            return n, oracle.left(rule, n)
    return None


def cases(seed, count):
    rng = random.Random(seed)
    for book, rows in tables_of_books(seed, count, 4, 6, 8):
        rules = [*book.rules[:2], *[oracle.random_rule(rng, [1, 2, 3, 4, 5, 6], 10, 10) for _ in range(4)]]
        for rule in rules:
            yield book, Table(*rows), rule, first_bar(oracle.worths(book.rules, FAR), rule)


class Looking(Case):
    def test_right_tables(self):
        seen = {True: 0, False: 0}
        for book, table, rule, bar in cases(1, 60):
            self.exactly(shows_free(book, rule, table), bar is None)
            seen[bar is None] += 1
            if bar is None:
                for heap, left in ((0, 0), (rule.start, oracle.left(rule, rule.start)), (None, None)):
                    self.exactly(shows_barred(book, rule, table, heap, left), False)
                continue
            heap, left = bar
            self.exactly(shows_barred(book, rule, table, heap, left), True)
            for n, k in ((heap + 1, left), (heap, left + 1), (heap, left - 1), (heap - 1, left), (heap, None), (None, left), (heap, heap), (left, left),
                         (heap + table.period * 60, left + table.period * 60), (str(heap), left), (heap, [left])):
                self.exactly(shows_barred(book, rule, table, n, k), False)
        self.assertGreater(min(seen.values()), 40)

    def test_the_heap_is_the_least_one(self):
        row = oracle.worths(PAIR.rules, 60)
        for rule in (Fixed(2), Fixed(3), Down(0), Down(2, 1, 2), Fixed(5), Fixed(2, 3, 4)):
            least = first_bar(row, rule)
            for heap in range(60):
                for left in range(heap):
                    self.exactly(shows_barred(PAIR, rule, TABLE, heap, left), (heap, left) == least)

    def test_wrong_tables(self):
        # By each of these tables the rule is free, or barred there; but it is none of the book.
        for table in OTHERS:
            for size in range(1, 12):
                self.exactly([shows_free(PAIR, Fixed(size), table), shows_barred(PAIR, Fixed(size), table, size, 0)], [False, False])
        self.exactly([shows_free(Book(), Fixed(1), TABLE), shows_free(Book(Fixed(1)), Fixed(1), Table(0, 2, [0, 1]))], [False, True])
        self.exactly(shows_barred(Book(), Fixed(3), Table(0, 1, [0]), 3, 0), True)

    def test_any_values(self):
        for thing in [*no_integers(), 0, (0, 5, TABLE.numbers), "| 0 1 0 1 2"]:
            self.exactly([shows_free(PAIR, Fixed(6), thing), shows_barred(PAIR, Fixed(2), thing, 2, 0)], [False, False])
        for rule in no_rules():
            self.exactly([shows_free(PAIR, rule, TABLE), shows_barred(PAIR, rule, TABLE, 2, 0)], [False, False])
        for wrong in [*no_integers(), 2.0, "2", -1, 10 ** 39]:
            self.exactly([shows_barred(PAIR, Fixed(2), TABLE, wrong, 0), shows_barred(PAIR, Fixed(2), TABLE, 2, wrong),
                          shows_barred(PAIR, Fixed(2), TABLE, wrong, wrong)], [False] * 3)

    def test_bools_are_no_heaps(self):
        # Down(0) is barred at the heap 1 by the table of the book without rules.
        self.exactly([shows_barred(Book(), Down(0), Table(0, 1, [0]), *heaps) for heaps in ((1, 0), (True, 0), (1, False), (True, False))],
                     [True, False, False, False])

    def test_tables_told_longer(self):
        longer = Table(5, 10, TABLE.numbers * 3)
        self.exactly([shows_free(PAIR, Fixed(6), longer), shows_barred(PAIR, Fixed(2), longer, 2, 0)], [True, True])
        self.exactly([shows_free(thing=longer, rule=Fixed(6), book=PAIR),
                      shows_barred(left=0, heap=2, thing=longer, rule=Fixed(2), book=PAIR)], [True, True])


if __name__ == "__main__":
    unittest.main()
