import itertools
import random
import unittest

import oracle
from cases import BIG, Case, beyond, no_heaps, no_integers, no_rules
from freetakes.books import Book
from freetakes.free import is_free
from freetakes.free_sizes import free_sizes
from freetakes.greatest import Greatest, given_back
from freetakes.rules import Down, Fixed
from freetakes.tables import Table
from test_free_sizes import NO_TABLES, asked
from test_look_tables import tables_of_books
from test_tables import random_rows

FEW = Greatest(Table(0, 3, (0, 1, 2)))


def drawn(seed, count):
    rng = random.Random(seed)
    return [Table(*random_rows(rng)) for _ in range(count)]


def worth(table, n):
    """The worth of an integer however great, by the parts of the table."""
    return table.numbers[n] if n < table.begin else table.numbers[table.begin + (n - table.begin) % table.period]


def worths_of_all_takes(row):
    """The worths if from each heap each lesser one of another worth may be left."""
    found = []
    for n, number in enumerate(row):
        seen = {found[left] for left in range(n) if row[left] != number}
        found.append(next(k for k in range(len(seen) + 1) if k not in seen))
    return found


class Pairs(Case):
    def test_it_is_made_of_a_table(self):
        for table in drawn(1, 5):
            self.assertIs(Greatest(table).table, table)
            self.assertIs(Greatest(table=table).table, table)
        for wrong in NO_TABLES:
            if not isinstance(wrong, Table):
                self.raised("BadTable", ["table"], Greatest, wrong)
        for name in ("lets", "__contains__", "has", "each_take", "many", "sizes", "__eq__"):
            self.assertIn(name, vars(Greatest))

    def test_lets(self):
        for table in drawn(2, 60):
            wide = Greatest(table)
            for n in [*range(25), BIG, BIG - 1]:
                for left in [*range(min(n, 25)), *range(max(0, n - 12), n)]:
                    self.exactly([wide.lets(n, left), (n, left) in wide], [worth(table, n) != worth(table, left)] * 2)
        self.exactly(FEW.lets(left=0, n=4), True)

    def test_lets_no_heaps(self):
        for wrong in no_heaps():
            self.raised("BadSize", [wrong], FEW.lets, wrong, 0)
            self.raised("BadSize", [wrong], FEW.lets, wrong, None)
        for n in (0, 1, 2, 7, BIG):
            for wrong in [*beyond(0, n - 1), n, n + 1]:
                self.raised("BadSize", [wrong], FEW.lets, n, wrong)

    def test_pairs_however_great(self):
        for table in drawn(3, 60):
            wide = Greatest(table)
            for n in (BIG + 1, BIG + 7, 10 ** 39, 10 ** 39 + 1):
                for left in (0, 1, 5, BIG, n - 1, n - 2, n - 9):
                    self.exactly((n, left) in wide, worth(table, n) != worth(table, left))

    def test_other_values_are_not_in_it(self):
        wide = Greatest(Table(1, 1, [0, 1]))
        self.exactly([(1, 0) in wide, (2, 1) in wide, (10 ** 39, 0) in wide], [True, False, True])
        for thing in [*no_integers(), 0, 1, (), (1,), (1, 0, 0), [1, 0], ((1, 0),), (0, 0), (1, 1), (0, 1), (1, 2), (0, -1), (1, -1), (-1, -2), (-1, 0),
                      (True, 0), (1, False), (1, None), (None, 0), ("1", 0), (1, "0"), (2, True), ([1], 0), {1: 0}, wide, wide.table]:
            if not isinstance(thing, (Fixed, Down)):
                self.exactly(thing in wide, False)

    def test_rules(self):
        rng = random.Random(4)
        seen = {True: 0, False: 0}
        for table in drawn(5, 300):
            rule = oracle.random_rule(rng, [1, 2, 3, 4, 5, 6], 12, 12)
            row = [table[n] for n in range(250)]
            wanted = all(row[n] != row[oracle.left(rule, n)] for n in range(250) if oracle.stands(rule, n))
            self.exactly([rule in Greatest(table), is_free(table, rule)], [wanted, wanted])
            seen[wanted] += 1
        self.assertGreater(min(seen.values()), 30)

    def test_has(self):
        rng = random.Random(6)
        for table in drawn(7, 150):
            book = Book.of(oracle.random_rules(rng, rng.randint(0, 3), 6, 6))
            self.exactly(Greatest(table).has(book), all(is_free(table, rule) for rule in book.rules))
        for book, rows in tables_of_books(8, 40):
            self.exactly([Greatest(Table(*rows)).has(book), Greatest(Table(*rows)).has(book=book - book)], [True, True])
        self.exactly([FEW.has(Book(Fixed(1), Fixed(3))), FEW.has(Book(Fixed(3), Fixed(1))), FEW.has(Book(Fixed(1), Down(0, 1, 3)))],
                     [False, False, True])

    def test_equality(self):
        tables = drawn(9, 40)
        for one in tables:
            for other in tables:
                self.exactly([Greatest(one) == Greatest(other), Greatest(one) != Greatest(other)], [one == other, one != other])
        for thing in [*no_integers(), FEW.table, 3]:
            self.assertFalse(FEW == thing or thing == FEW)

    def test_books_with_equal_worths_alone_have_equal_greatest_books(self):
        pairs = tables_of_books(10, 30, 3, 4, 4)
        for book, rows in pairs:
            for other, lines in pairs:
                same = oracle.worths(book.rules, 200) == oracle.worths(other.rules, 200)
                self.exactly(Greatest(Table(*rows)) == Greatest(Table(*lines)), same)


class Takes(Case):
    def test_near(self):
        for table in drawn(11, 120):
            wide = Greatest(table)
            for n in range(40):
                wanted = [k for k in range(1, n + 1) if worth(table, n) != worth(table, n - k)]
                self.exactly([list(wide.each_take(n)), wide.many(n)], [wanted, len(wanted)])

    def test_far(self):
        rng = random.Random(12)
        for table in drawn(13, 150):
            wide = Greatest(table)
            n = rng.choice([BIG, BIG - rng.randint(0, 50), 10 ** 29 + rng.randint(0, 50)])
            wanted = [k for k in range(1, 40) if worth(table, n) != worth(table, n - k)]
            if all(worth(table, n) == number for number in table.numbers[table.begin:]):
                wanted = [n - left for left in range(table.begin - 1, -1, -1) if table[left] != table[n]]
            self.exactly(list(itertools.islice(wide.each_take(n), len(wanted))), wanted)
            ahead = sum(number != table[n] for number in table.numbers[:table.begin])
            turns, rest = divmod(n - table.begin, table.period)
            again = [number != table[n] for number in table.numbers[table.begin:]]
            self.exactly(wide.many(n), ahead + turns * sum(again) + sum(again[:rest]))

    def test_few_takes_far_off(self):
        late = Greatest(Table(1000, 1, [0, 2] + [1, 0] * 499 + [0]))
        self.exactly(list(late.each_take(BIG)), [*[BIG - left for left in range(998, 0, -2)], BIG - 1])
        self.exactly([late.many(BIG), late.many(1000), late.many(1), late.many(0)], [500, 500, 1, 0])
        self.exactly([list(Greatest(Table(0, 1, [0])).each_take(BIG)), Greatest(Table(0, 1, [0])).many(BIG)], [[], 0])
        self.exactly([list(Greatest(Table(1, 1, [0, 1])).each_take(n=BIG)), Greatest(Table(1, 1, [0, 1])).many(n=BIG)], [[BIG], 1])

    def test_walks_left_early_and_begun_anew(self):
        one, other = FEW.each_take(8), FEW.each_take(BIG)
        self.exactly([next(one), next(other), next(one), next(one), next(other), next(one)], [1, 1, 2, 4, 2, 5])
        one.close()
        self.exactly([next(FEW.each_take(8)), next(other), list(FEW.each_take(2))], [1, 4, [1, 2]])

    def test_no_heaps(self):
        for wrong in no_heaps():
            self.raised("BadSize", [wrong], FEW.many, wrong)
            self.raised("BadSize", [wrong], lambda: next(FEW.each_take(wrong)))
            self.raised("BadSize", [wrong], lambda: next(Greatest(Table(0, 1, [0])).each_take(wrong)))

    def test_sizes(self):
        rng = random.Random(14)
        for table in drawn(15, 60):
            rest, modulus, leave = asked(rng)
            self.assertEqual(Greatest(table).sizes(rest, modulus, leave), free_sizes(table, rest, modulus, leave))
            self.assertEqual(Greatest(table).sizes(leave=leave), free_sizes(table, leave=leave))
            self.assertEqual(Greatest(table).sizes(), free_sizes(table))
        for wrong in beyond(0, 400):
            self.raised("BadRule", ["leave"], FEW.sizes, None, None, wrong)
        self.raised("BadRule", ["modulus"], FEW.sizes, 9, 7, 0)
        self.raised("BadRule", ["rest"], FEW.sizes, 6, 6, 400)
        self.raised("TooMany", ["heaps", 400], Greatest(Table(1, 400, [0] + list(range(1, 401)))).sizes)


class GivenBack(Case):
    def test_tables_of_books(self):
        for book, rows in tables_of_books(16, 60):
            self.exactly(given_back(Greatest(Table(*rows)), 120), oracle.worths(book.rules, 120))

    def test_any_tables(self):
        unlike = 0
        for table in drawn(17, 120):
            row = [table[n] for n in range(60)]
            wanted = worths_of_all_takes(row)
            self.exactly(given_back(Greatest(table), 60), wanted)
            unlike += wanted != row
        self.assertGreater(unlike, 30)

    def test_named(self):
        # No heap has the worth 1, so that the takes alone give it to the odd ones.
        self.exactly(given_back(Greatest(Table(0, 2, [0, 2])), 6), [0, 1, 0, 1, 0, 1])
        self.exactly(given_back(Greatest(Table(0, 3, [0, 5, 0])), 4), [0, 1, 0, 0])
        self.exactly([given_back(FEW, n) for n in range(4)], [[], [0], [0, 1], [0, 1, 2]])
        self.exactly(given_back(n=300, greatest=Greatest(Table(0, 401, list(range(401))))), list(range(300)))
        given_back(FEW, 3).append(9)
        self.exactly(given_back(FEW, 3), [0, 1, 2])

    def test_wrong_numbers(self):
        for wrong in beyond(0, 300):
            self.raised("BadNumber", [wrong], given_back, FEW, wrong)


class NoRules(Case):
    def test_no_rule_is_in_it_but_rules(self):
        for wrong in no_rules():
            self.exactly(wrong in FEW, isinstance(wrong, tuple) and wrong in ((1, 0),))


if __name__ == "__main__":
    unittest.main()
