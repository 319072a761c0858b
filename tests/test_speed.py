"""Great books and tables are answered promptly: the limits are many times what is needed."""

import random
import time
import unittest

import oracle
from freetakes.books import Book
from freetakes.compare import beside, compare, parted_alone, same_takes, shows_parted
from freetakes.errors import TooMany
from freetakes.free import bars, free, free_among, least_leave
from freetakes.look_tables import shows_table
from freetakes.rules import Fixed
from freetakes.tables import Table, table_of, worths

LIMIT = 3


def great_books():
    rng = random.Random(1)
    books = [Book.plain(400)]
    for moduli in ([1], [1, 2, 3, 4, 6], [4, 6], [5, 2]):
        for size in (12, 400):
            rules = [oracle.random_rule(rng, moduli, size, 400) for _ in range(400)]
            books.append(Book.of(rules))
    return books


def great_table(seed):
    rng = random.Random(seed)
    return Table(1000, 1000, [0] + [rng.randrange(200) for _ in range(1999)])


class Speed(unittest.TestCase):
    def prompt(self, call, *args):
        begin = time.process_time()
        try:
            found = call(*args)
        except TooMany:
            found = None
        self.assertLess(time.process_time() - begin, LIMIT, (call, args))
        return found

    def test_books(self):
        for book in great_books():
            table = self.prompt(table_of, book)
            if table is not None:
                self.assertTrue(self.prompt(shows_table, book, table))
            self.prompt(worths, book, 20000)
            self.prompt(same_takes, book, book)
            self.prompt(compare, book, book)
            self.prompt(shows_parted, book, Book.plain(400), 20000, 1, 2)
            self.prompt(lambda: [book(n) for n in range(2000)])
            self.prompt(lambda: [(book.takes(10 ** 30 - n), book.lefts(n)) for n in range(100)])

    def test_tables(self):
        one, other = great_table(1), great_table(2)
        self.prompt(lambda: [one[10 ** 30 - n] for n in range(20000)])
        self.prompt(lambda: [next(one.heaps_of(7, 10 ** k)) for k in range(30)])
        self.prompt(lambda: [free(one, rule) for rule in great_books()[0].rules])
        self.prompt(lambda: [list(bars(one, Fixed(size), 10 ** 30)) for size in range(1, 401)])
        self.prompt(lambda: [least_leave(one, size) for size in range(1, 401)])
        self.prompt(free_among, one, *great_books()[1].rules)
        for call in (compare, parted_alone, beside):
            self.prompt(call, one, other)
            self.prompt(call, one, one)


if __name__ == "__main__":
    unittest.main()
