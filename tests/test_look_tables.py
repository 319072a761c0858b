import random
import unittest

import oracle
from cases import Case, no_integers
from freetakes.books import Book
from freetakes.look_tables import shows_table
from freetakes.rules import Down, Fixed
from freetakes.tables import Table, table_of
from test_table_of import LATE, SEEMING


def tables_of_books(seed, count, *sizes):
    """Books with their tables, by the oracle; those without a table are left out."""
    pairs = [(book, oracle.table(book.rules)) for book in oracle.random_books(seed, count, *sizes)]
    return [(book, rows) for book, rows in pairs if rows is not None and max(rows[:2]) <= 1000]


class Looking(Case):
    def test_the_right_table(self):
        for book, rows in [*tables_of_books(1, 150), *tables_of_books(2, 20, 6, 12, 60)]:
            self.exactly(shows_table(book, Table(*rows)), True)

    def test_a_table_told_longer(self):
        for book, (begin, period, numbers) in tables_of_books(3, 60):
            again = numbers[begin:]
            longer = Table(begin + period, 2 * period, numbers + again + again) if 2 * period <= 1000 else Table(begin, period, numbers)
            self.exactly(shows_table(book, longer), True)

    def test_one_worth_otherwise(self):
        rng = random.Random(4)
        for book, (begin, period, numbers) in tables_of_books(5, 80):
            for at in {begin + period - 1, *[rng.randrange(begin + period) for _ in range(5)]}:
                changed = list(numbers)
                changed[at] = (changed[at] + rng.choice([1, 2])) if rng.random() < 0.6 else max(0, changed[at] - 1)
                if changed[0] == 0:
                    self.exactly(shows_table(book, Table(begin, period, changed)), tuple(changed) == numbers)

    def test_begin_or_period_otherwise(self):
        for book, (begin, period, numbers) in tables_of_books(6, 80):
            right = Table(begin, period, numbers)
            told = [right[n] for n in range(begin + 3 * period + 3)]
            others = [Table(begin, period + 1, told[:begin + period + 1]), Table(begin + 1, period + 1, told[:begin + period + 2])]
            if period > 1:
                others += [Table(begin, period - 1, told[:begin + period - 1]), Table(begin + 1, period - 1, told[:begin + period])]
            if begin:
                others += [Table(begin - 1, period, told[:begin + period - 1]), Table(0, period, told[:period])]
            for other in others:
                self.exactly(shows_table(book, other), other == right)

    def test_tables_of_other_books(self):
        pairs = tables_of_books(7, 25)
        for book, rows in pairs:
            for _, others in pairs:
                self.exactly(shows_table(book, Table(*others)), rows == others)

    def test_late_worths(self):
        for text, begin, period in LATE:
            book = Book.read(text)
            rows = oracle.table(book.rules)
            self.exactly(shows_table(book, Table(*rows)), True)
            changed = [*rows[2][:-1], rows[2][-1] + 1]
            self.exactly(shows_table(book, Table(begin, period, changed)), False)

    def test_tables_that_fail_far_on(self):
        for rules, last, _ in SEEMING:
            seeming = table_of(Book(*rules))
            self.exactly([shows_table(Book(*rules), seeming), shows_table(Book(*rules, last), seeming)], [True, False])

    def test_great_tables(self):
        # Each of these has more than 1,000 worths, so that no table_of tells it.
        book = Book(Fixed(400, leave=400))
        self.exactly(shows_table(book, Table(400, 800, [0] * 800 + [1] * 400)), True)
        self.exactly(shows_table(book, Table(400, 800, [0] * 801 + [1] * 399)), False)
        self.exactly(shows_table(book, Table(1000, 800, [0] * 800 + [1] * 400 + [0] * 400 + [1] * 200)), True)
        self.exactly(shows_table(book, Table(1000, 800, [0] * 800 + [1] * 400 + [0] * 400 + [1] * 199 + [0])), False)
        wide = Book(Fixed(400), Fixed(399))
        rows = oracle.table(wide.rules)
        self.exactly(shows_table(wide, Table(*rows)), True)

    def test_books_with_many_rules(self):
        self.exactly(shows_table(Book.plain(400), Table(0, 401, list(range(401)))), True)
        self.exactly(shows_table(Book.plain(400), Table(0, 400, list(range(400)))), False)
        downs = Book.of([Down(to) for to in range(400)])
        self.exactly(shows_table(downs, Table(400, 1, list(range(401)))), True)
        self.exactly(shows_table(downs, Table(399, 1, list(range(400)))), False)

    def test_any_other_value(self):
        book = Book(Fixed(1))
        for thing in [*no_integers(), 0, [0, 1], (0, 1), "| 0 1", (0, 2, (0, 1)), book]:
            self.exactly(shows_table(book, thing), False)
        self.exactly(shows_table(Book(), Table(0, 1, [0])), True)
        self.exactly(shows_table(thing=Table(0, 2, [0, 1]), book=book), True)


if __name__ == "__main__":
    unittest.main()
