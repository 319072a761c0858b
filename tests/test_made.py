"""Made tables, against slow answers made from the definitions, in which rules are plain tuples of any size."""

import itertools
import math
import random
import unittest

import oracle
from cases import Case, beyond, no_integers
from freetakes.books import Book
from freetakes.made import Made, Making, Unmade, made, moduli_of, shows_made, shows_unmade, ways
from freetakes.rules import Down, Fixed
from freetakes.tables import Table

STEP = Table(0, 3, [0, 0, 1])
WAVE = Table(1, 4, [0, 0, 1, 2, 1])


class Slow:
    """What can be reached with free rules of one modulus, a rule being (kind, number, rest, leave)."""

    def __init__(self, table, modulus):
        self.table, self.modulus = table, modulus
        self.begin, self.turn = table.begin, math.lcm(table.period, modulus)
        self.known = {}

    def worth(self, n):
        row = self.table.numbers
        return row[n] if n < self.begin else row[self.begin + (n - self.begin) % self.table.period]

    def looks_free(self, kind, number, rest, leave):
        start = number + leave if kind == "fixed" else number + 1
        for n in range(start, start + self.begin + 2 * self.turn + 1):
            behind = n - number if kind == "fixed" else number
            if n % self.modulus == rest and self.worth(n) == self.worth(behind):
                return False
        return True

    def is_free(self, *rule):
        if rule not in self.known:
            self.known[rule] = self.looks_free(*rule)
        return self.known[rule]

    def ways(self, n, worth):
        rest = n % self.modulus
        places = [a for a in range(n) if self.worth(a) == worth]
        found = [("fixed", n - a, rest, a) for a in places if self.is_free("fixed", n - a, rest, a)]
        found += [("down", a, rest, 0) for a in places if self.is_free("down", a, rest, 0)]
        return sorted(found, key=lambda rule: (rule[0] == "down", rule[1]))

    def reached(self, n, worth):
        """With all leaves, not just the one that needs to be looked at."""
        rest = n % self.modulus
        for a in range(n):
            if self.worth(a) == worth:
                if self.is_free("down", a, rest, 0):
                    return True
                if any(self.is_free("fixed", n - a, rest, leave) for leave in range(a + 1)):
                    return True
        return False

    def for_good(self, n, worth):
        rest = n % self.modulus
        far = n + 40 * self.turn + 400
        far -= (far - n) % self.turn
        for size in range(1, 2 * self.turn + self.begin + 1):
            if self.worth(far - size) == worth:
                if any(self.is_free("fixed", size, rest, leave) for leave in (self.begin, self.begin + 3)):
                    return True
        places = range(self.begin + 2 * self.turn)
        return any(self.worth(a) == worth and self.is_free("down", a, rest, 0) for a in places)

    def made(self):
        """None if it is made, otherwise the kind, the least heap and the least worth."""
        for n in range(max(self.begin + self.turn, 2 * self.begin) + 2 * self.turn):
            for worth in range(self.worth(n)):
                if not self.reached(n, worth):
                    return "heap", n, worth
        for n in range(self.begin, self.begin + 2 * self.turn):
            for worth in range(self.worth(n)):
                if not self.for_good(n, worth):
                    return "class", n, worth
        return None


def random_table(rng, most, worths):
    begin = rng.randint(0, most - 1)
    period = rng.randint(1, most - begin)
    return Table(begin, period, [0] + [rng.randint(0, rng.randint(0, worths)) for _ in range(begin + period - 1)])


def book_tables(seed, count, most):
    """Tables with a modulus that made them, of drawn small books."""
    rng = random.Random(seed)
    found = []
    while len(found) < count:
        modulus = rng.randint(1, 6)
        rules = [oracle.random_rule(rng, [modulus], 5, 6) for _ in range(rng.randint(0, 5))]
        rows = oracle.table(rules)
        if rows is not None and rows[0] + math.lcm(rows[1], modulus) <= most and max(rows[2]) <= 6:
            found.append((Table(*rows), modulus))
    return found


def small_tables(most):
    """All tables of at most this many heaps with worths to 2."""
    found = {}
    for heaps in range(1, most + 1):
        for begin in range(heaps):
            for row in itertools.product(range(3), repeat=heaps - 1):
                table = Table(begin, heaps - begin, (0, *row))
                found[str(table)] = table
    return list(found.values())


def changed(rng, table):
    """The table with one other worth."""
    numbers = list(table.numbers)
    numbers[rng.randrange(len(numbers))] = rng.randint(0, 3)
    return Table(table.begin, table.period, [0] + numbers[1:])


def as_tuple(rule):
    if isinstance(rule, Fixed):
        return "fixed", rule.size, rule.rest, rule.leave
    return "down", rule.to, rule.rest, 0


class TestMade(Case):
    def check(self, table, modulus):
        """Check made, and return its kind of answer."""
        if table.begin + math.lcm(table.period, modulus) > 30:
            self.raised("TooMany", ("heaps", 30), made, table, modulus)
            return "great"
        wanted = Slow(table, modulus).made()
        found = made(table, modulus)
        if wanted is not None:
            self.exactly((found.kind, found.heap, found.worth), wanted)
            self.assertIs(type(found), Unmade)
            self.assertIs(bool(found), False)
            self.assertIs(shows_unmade(table, modulus, *wanted), True)
            return wanted[0]
        self.assertIs(type(found), Made)
        self.assertIs(bool(found), True)
        self.check_book(table, modulus, found.book)
        return "made"

    def check_book(self, table, modulus, book):
        self.assertIs(type(book), Book)
        self.assertLessEqual(len(book), 380)
        self.assertEqual({rule.modulus for rule in book.rules} | {modulus}, {modulus})
        self.assertEqual(oracle.table(book.rules), (table.begin, table.period, table.numbers))
        self.assertIs(shows_made(table, modulus, book), True)

    def test_tables_of_books_are_made(self):
        for table, modulus in book_tables(1, 120, 30):
            found = made(table, modulus)
            self.assertTrue(found, (str(table), modulus))
            self.check_book(table, modulus, found.book)
            self.assertIn(modulus, moduli_of(table))

    def test_drawn_tables(self):
        rng = random.Random(2)
        kinds = [self.check(random_table(rng, rng.choice([2, 4, 6, 9]), 3), rng.randint(1, 6)) for _ in range(200)]
        self.assertGreater(kinds.count("heap"), 50)
        self.assertGreater(kinds.count("made"), 20)
        kinds = []
        for table, modulus in book_tables(3, 100, 12):
            kinds.append(self.check(table, rng.randint(1, 6)))
            kinds.append(self.check(changed(rng, table), modulus))
        self.assertGreater(kinds.count("made"), 40)

    def test_all_small_tables(self):
        """Of the tables of more than five heaps that cannot be reached at some heap, one of twenty is looked at."""
        kinds = []
        for at, table in enumerate(small_tables(7)):
            for modulus in (1, 2, 3):
                if len(table.numbers) < 6 or at % 20 == 0 or made(table, modulus) or made(table, modulus).kind == "class":
                    kinds.append(self.check(table, modulus))
        for kind, least in (("heap", 1000), ("class", 45), ("made", 1000)):
            self.assertGreater(kinds.count(kind), least, kind)

    def test_great_tables(self):
        rng = random.Random(4)
        kinds = [self.check(random_table(rng, 30, 6), rng.randint(1, 3)) for _ in range(60)]
        self.assertGreater(kinds.count("heap"), 20)
        self.assertGreater(kinds.count("great"), 5)
        # Each worth up to 6 once ahead of those that come again, and the most rules that a book can need.
        self.assertEqual(self.check(Table(29, 1, [0, 1, 2, 3, 4, 5] + [6] * 24), 1), "made")
        self.assertEqual(self.check(Table(0, 7, list(range(7))), 4), "made")
        self.assertEqual(self.check(Table(24, 6, [0, 1, 2, 3, 4, 5] + [6] * 18 + [0, 1, 2, 3, 4, 5]), 6), "heap")
        self.assertGreater(len(made(Table(2, 7, [0, 1, 0, 1, 2, 3, 4, 5, 6]), 4).book), 50)
        self.assertEqual(self.check(Table(0, 10, [0, 1, 2, 3, 4, 5, 6, 0, 1, 2]), 6), "heap")
        self.assertEqual(self.check(Table(0, 6, [0, 1, 2, 3, 4, 5]), 5), "made")

    def test_the_same_again(self):
        for table, modulus in book_tables(5, 20, 20):
            self.assertEqual(made(table, modulus), made(Table(table.begin, table.period, table.numbers), modulus))

    def test_moduli(self):
        rng = random.Random(6)
        tables = [table for table, _ in book_tables(7, 25, 14)] + [random_table(rng, 6, 2) for _ in range(40)]
        for table in tables:
            moduli = [m for m in range(1, 7) if table.begin + math.lcm(table.period, m) <= 30]
            self.exactly(moduli_of(table), tuple(m for m in moduli if Slow(table, m).made() is None))
        self.exactly(moduli_of(STEP), (3, 6))
        self.exactly(moduli_of(WAVE), (2, 4, 6))
        self.exactly(moduli_of(Table(0, 1, [0])), (1, 2, 3, 4, 5, 6))

    def test_passed_over_moduli(self):
        # 29 heaps come again: with modulus 1 alone these are at most 30.
        table = Table(1, 29, [0, 1] + [0] * 28)
        self.assertEqual(moduli_of(table), (1,) if Slow(table, 1).made() is None else ())
        self.exactly(moduli_of(Table(0, 31, [0, 1] + [0] * 29)), ())
        whole = Table(29, 1, [0] + [1] * 28 + [0])
        self.raised("TooMany", ("heaps", 30), made, whole, 2)
        self.assertLessEqual(set(moduli_of(whole)), {1})
        late = Book(Fixed(1, leave=27)).as_table()
        self.assertEqual((late.begin, late.period), (27, 2))
        self.assertEqual(moduli_of(late), (1, 2))
        self.raised("TooMany", ("worth", 6), moduli_of, Table(0, 8, list(range(8))))
        self.raised("TooMany", ("worth", 6), moduli_of, Table(0, 40, [0] * 39 + [7]))
        self.assertEqual(moduli_of(Table(0, 7, list(range(7)))), (1, 2, 3, 4))

    def test_ways(self):
        rng = random.Random(8)
        tables = [table for table, _ in book_tables(9, 40, 20)] + [random_table(rng, 12, 4) for _ in range(40)]
        many = 0
        for table in tables:
            modulus = rng.choice([m for m in range(1, 7) if table.begin + math.lcm(table.period, m) <= 30])
            slow = Slow(table, modulus)
            for n in [*range(30), 99, 100]:
                for worth in range(slow.worth(n)):
                    found = ways(table, modulus, n, worth)
                    self.assertIs(type(found), tuple)
                    self.assertEqual([as_tuple(rule) for rule in found], slow.ways(n, worth))
                    self.assertTrue(all(rule.modulus == modulus for rule in found))
                    many += len(found)
                    self.assertIs(shows_unmade(table, modulus, "heap", n, worth), not found)
        self.assertGreater(many, 1000)
        self.assertEqual(ways(STEP, 3, 100, 0) if STEP[100] else (), ())
        self.assertIn(Fixed(100, 0, 1, 0), ways(Table(0, 2, [0, 1]), 1, 99, 0) + (Fixed(100),))

    def test_shown_unmade(self):
        rng = random.Random(10)
        tables = [table for table, _ in book_tables(11, 25, 12)] + [changed(rng, table) for table, _ in book_tables(12, 25, 12)]
        seen = {True: 0, False: 0}
        for table in tables:
            modulus = rng.choice([m for m in range(1, 7) if table.begin + math.lcm(table.period, m) <= 14] or [1])
            slow = Slow(table, modulus)
            for n in [*range(40), table.begin + 99, table.begin + 100]:
                for worth in range(5):
                    below = n >= table.begin and worth < slow.worth(n)
                    wanted = below and not slow.for_good(n, worth)
                    self.assertIs(shows_unmade(table, modulus, "class", n, worth), wanted, (str(table), modulus, n, worth))
                    seen[wanted] += 1
                    if n < 25:
                        wanted = worth < slow.worth(n) and not slow.reached(n, worth)
                        self.assertIs(shows_unmade(table, modulus, "heap", n, worth), wanted, (str(table), modulus, n, worth))
        self.assertGreater(seen[True], 100)

    def test_bounds_of_shown_heaps(self):
        # The heap 3 and those that come again of it cannot reach the worth 0 for good.
        for heap, wanted in ((3, True), (7, True), (99, True), (103, False), (2, False), (4, False), (-1, False), (0, False)):
            self.assertIs(shows_unmade(WAVE, 1, "class", heap, 0), wanted, heap)
        near = Table(3, 4, [0, 0, 0, 0, 0, 1, 2])
        for heap in range(90, 110):
            if near[heap]:
                slow = Slow(near, 1)
                self.assertIs(shows_unmade(near, 1, "class", heap, 0), heap <= 103 and not slow.for_good(heap, 0), heap)
                self.assertIs(shows_unmade(near, 1, "heap", heap, 0), heap <= 100 and not slow.reached(heap, 0), heap)
        self.assertTrue(shows_unmade(STEP, 1, "heap", 98, 0))
        self.assertFalse(shows_unmade(STEP, 1, "heap", 101, 0))
        self.assertFalse(shows_unmade(STEP, 1, "heap", 2, 1))

    def test_shown_made(self):
        for table, modulus in book_tables(13, 60, 20):
            book = made(table, modulus).book
            for other in range(1, 7):
                self.assertIs(shows_made(table, other, book), other == modulus or not book.rules)
            for rule in book.rules:
                less = book - rule
                self.assertIs(shows_made(table, modulus, less), oracle.table(less.rules) == oracle.table(book.rules))
            self.assertFalse(shows_made(Table(0, 2, [0, 7]), modulus, book))
        self.assertIs(shows_made(STEP, 3, Book(Fixed(2, 2, 3), Fixed(2, 5, 6))), False)
        self.assertIs(shows_made(STEP, 6, Book(Fixed(2, 2, 6), Fixed(2, 5, 6))), True)

    def test_shown_made_for_any_table(self):
        plain = Book.plain(40)
        self.assertIs(shows_made(plain.as_table(), 1, plain), True)
        self.assertIs(shows_made(plain.as_table(), 2, plain), False)
        self.assertIs(shows_made(Table(0, 1, [0]), 5, Book()), True)

    def test_errors_in_their_order(self):
        great, high = Table(0, 31, [0] + [1] * 30), Table(0, 8, [0] * 7 + [7])
        both = Table(0, 31, [0] + [7] * 30)
        for modulus in beyond(1, 6):
            for table in (STEP, both):
                self.raised("BadNumber", (modulus,), made, table, modulus)
                self.raised("BadNumber", (modulus,), ways, table, modulus, -1, None)
                self.raised("BadNumber", (modulus,), shows_made, table, modulus, None)
                self.raised("BadNumber", (modulus,), shows_unmade, table, modulus, None, None, None)
        for modulus in range(1, 7):
            for call, rest in ((made, ()), (ways, (-1, None)), (shows_unmade, ("heap", 2, 0))):
                self.raised("TooMany", ("heaps", 30), call, both, modulus, *rest)
                self.raised("TooMany", ("heaps", 30), call, great, modulus, *rest)
                self.raised("TooMany", ("worth", 6) if modulus in (1, 2, 3, 4, 6) else ("heaps", 30), call, high, modulus, *rest)
            self.assertIs(shows_made(both, modulus, None), False)
        self.raised("TooMany", ("worth", 6), made, table=high, modulus=1)

    def test_bounds_of_tables(self):
        for begin, period in ((0, 30), (29, 1), (15, 15)):
            table = Table(begin, period, [0] + [1] * (begin + period - 2) + [6])
            self.assertEqual((table.begin, table.period), (begin, period))
            self.assertFalse(made(table, 1))
        for begin, period in ((0, 31), (30, 1), (15, 16)):
            self.raised("TooMany", ("heaps", 30), made, Table(begin, period, [0] + [1] * (begin + period - 2) + [6]), 1)
        # The least form decides, and the common period with the modulus.
        self.assertTrue(made(Table(0, 400, [0, 1] * 200), 5))
        self.raised("TooMany", ("heaps", 30), made, Table(1, 6, [0, 1, 2, 0, 0, 0, 3]), 5)
        self.assertIsInstance(made(Table(0, 6, [0, 1, 2, 0, 0, 0]), 5), Making)

    def test_wrong_heaps_and_worths(self):
        for heap in beyond(0, 100):
            self.raised("BadSize", (heap,), ways, STEP, 1, heap, None)
            self.assertIs(shows_unmade(STEP, 1, "heap", heap, 0), False)
        for heap in [2, 5, 98]:
            for worth in beyond(0, 0):
                self.raised("BadNumber", (worth,), ways, STEP, 1, heap, worth)
                self.assertIs(shows_unmade(STEP, 1, "heap", heap, worth), False)
        for worth in (0, -1, 1, None):
            self.raised("BadNumber", (worth,), ways, STEP, 1, 0, worth)
        for kind in [*no_integers(), 0, 1, "heaps", "Heap", "class ", ["heap"], ("class",)]:
            self.assertIs(shows_unmade(STEP, 1, kind, 2, 0), False)
        for heap in [*no_integers(), 0, 104, 108, 10 ** 39, -1]:
            self.assertIs(shows_unmade(WAVE, 1, "class", heap, 0), False)
        for worth in [*no_integers(), -1, 2, 3, 10 ** 39]:
            self.assertIs(shows_unmade(WAVE, 1, "class", 3, worth), False)
        for thing in [*no_integers(), 3, [Fixed(2, 2, 3)], "fixed 2 rest 2 of 3"]:
            self.assertIs(shows_made(STEP, 3, thing), False)

    def test_answers_of_any_values(self):
        for value in [*no_integers(), 0, 7]:
            self.assertIs(Made(value).book, value)
            self.assertIs(bool(Made(value)), True)
            self.assertTrue(Made(value) == Made(book=value))
            answer = Unmade(value, heap=value, worth=value)
            self.assertTrue(answer.kind is answer.heap is answer.worth is value)
            self.assertIs(bool(answer), False)
            self.assertTrue(answer == Unmade(value, value, value))
            self.assertFalse(Made(value) == value or answer == value or Made(value) == answer or answer == Made(value))
        for other in (Unmade("class", 2, 0), Unmade("heap", 3, 0), Unmade("heap", 2, 1)):
            self.assertTrue(Unmade("heap", 2, 0) != other)
        self.assertTrue(Made(Book(Fixed(1))) != Made(Book(Down(0))))
        self.assertIsInstance(made(STEP, 1), Making)
        self.assertIsInstance(made(STEP, 3), Making)


if __name__ == "__main__":
    unittest.main()
