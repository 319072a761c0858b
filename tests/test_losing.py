import itertools
import random
import unittest

import oracle
from cases import BIG, Case, beyond, no_heaps, no_integers
from freetakes.books import Book
from freetakes.losing import LastTable, last_loses, saving_takes, shows_last
from freetakes.rules import Down, Fixed

PAIR = Book(Fixed(1), Fixed(2))


def random_rows(rng):
    """A begin, a period and truths, mostly of no least form."""
    again = [rng.random() < 0.5 for _ in range(rng.randint(1, 4))]
    ahead = [rng.random() < 0.5 for _ in range(rng.randint(0, 4))] + (again * 3)[:rng.randint(0, 2 * len(again))]
    turned = rng.randrange(len(again))
    again = (again[turned:] + again[:turned]) * rng.randint(1, 3)
    return len(ahead), len(again), [True, *(ahead + again)[1:]]


def told(begin, period, truths, n):
    return truths[n] if n < begin else truths[begin + (n - begin) % period]


class Making(Case):
    def check_least(self, begin, period, truths):
        last = LastTable(begin, period, truths)
        row = [told(begin, period, truths, n) for n in range(90)]
        least_period = next(p for p in range(1, 45) if row[45 - p:90 - p] == row[45:])
        least_begin = next(b for b in range(45) if row[b:45] == row[b + least_period:45 + least_period])
        self.exactly([last.begin, last.period, last.truths], [least_begin, least_period, tuple(row[:least_begin + least_period])])
        self.exactly([last[n] for n in range(90)], row)

    def test_least_form(self):
        rng = random.Random(1)
        for _ in range(800):
            begin, period, truths = random_rows(rng)
            self.check_least(begin, period, truths if rng.random() < 0.5 else tuple(truths))

    def test_least_form_of_all_short_rows(self):
        for many in range(1, 8):
            for rest in itertools.product([False, True], repeat=many - 1):
                for begin in range(many):
                    self.check_least(begin, many - begin, [True, *rest])

    def test_long_rows(self):
        last = LastTable(1000, 1000, [True] * 2000)
        self.exactly((last.begin, last.period, last.truths), (0, 1, (True,)))
        last = LastTable(1000, 1000, [True] * 999 + [False] + [True] * 1000)
        self.exactly((last.begin, last.period, len(last.truths)), (1000, 1, 1001))
        last = LastTable(1000, 1000, [True] * 1000 + [False] + [True] * 998 + [False])
        self.exactly((last.begin, last.period, last[BIG], last[BIG - 1], last[BIG - 2]), (1000, 1000, False, False, True))

    def test_each_wrong_part(self):
        for wrong in beyond(0, 1000):
            self.raised("BadTable", ["begin"], LastTable, wrong, 1, [True, True])
            self.raised("BadTable", ["begin"], LastTable, wrong, 0, None)
        for wrong in beyond(1, 1000):
            self.raised("BadTable", ["period"], LastTable, 0, wrong, [True])
            self.raised("BadTable", ["period"], LastTable, 1000, wrong, "1")
        for wrong in [*no_integers(), 0, 5, "11", {0: True, 1: True}, LastTable(0, 2, [True, False]), iter([True, True])]:
            self.raised("BadTable", ["truths"], LastTable, 0, 2, wrong)
        for many in (0, 1, 2, 4, 5):
            self.raised("BadTable", ["truths"], LastTable, 1, 2, [True] * many)
            self.raised("BadTable", ["truths"], LastTable, 1, 2, (True,) * many)
        for wrong in [*no_integers(), 0, 1, -1]:
            if not isinstance(wrong, bool):
                for at in range(3):
                    truths = [True, False, True]
                    truths[at] = wrong
                    self.raised("BadTable", ["truths"], LastTable, 1, 2, truths)
        for truths in ([False], (False,)):
            self.raised("BadTable", ["truths"], LastTable, 0, 1, truths)
        self.raised("BadTable", ["truths"], LastTable, 2, 2, [False, True, True, True])
        self.raised("BadTable", ["begin"], LastTable, truths=[False], period=0, begin=-1)
        self.raised("BadTable", ["period"], LastTable, truths=[False], period=0, begin=1)

    def test_later_changes_of_the_list(self):
        truths = [True, False]
        last = LastTable(0, 2, truths)
        truths[0] = False
        truths.append(True)
        self.exactly([last.truths, last[0], str(last)], [(True, False), True, "| 10"])

    def test_asking(self):
        rng = random.Random(2)
        for _ in range(200):
            rows = random_rows(rng)
            for n in [*range(30), *range(BIG - 12, BIG + 1)]:
                self.exactly(LastTable(*rows)[n], told(*rows, n))
        for last in (LastTable(0, 1, [True]), LastTable(2, 1, (True, True, False))):
            for wrong in [*no_heaps(), slice(0, 1)]:
                self.raised("BadSize", [wrong], lambda: last[wrong])
            with self.assertRaises(TypeError):
                iter(last)
        for name in ("__init__", "__getitem__", "__eq__", "__str__"):
            self.assertIn(name, vars(LastTable))

    def test_equality(self):
        rng = random.Random(3)
        rows = [random_rows(rng) for _ in range(60)]
        for one in rows:
            for other in rows:
                wanted = [told(*one, n) for n in range(90)] == [told(*other, n) for n in range(90)]
                self.exactly([LastTable(*one) == LastTable(*other), LastTable(*one) != LastTable(*other)], [wanted, not wanted])
        last = LastTable(0, 2, [True, False])
        for thing in [*no_integers(), 0, 1, "| 10", [True, False], (0, 2, (True, False))]:
            if not isinstance(thing, LastTable):
                self.assertFalse(last == thing or thing == last)
        for other in (LastTable(1, 1, [True, False]), LastTable(0, 3, [True, False, True]), LastTable(0, 3, [True, False, False])):
            self.assertFalse(last == other)

    def test_texts(self):
        rng = random.Random(4)
        for _ in range(200):
            last = LastTable(*random_rows(rng))
            figures = "".join("01"[truth] for truth in last.truths)
            ahead, again = figures[:last.begin], figures[last.begin:]
            self.exactly(str(last), f"{ahead} | {again}" if ahead else f"| {again}")
        self.exactly([str(LastTable(1, 1, [True, False])), str(LastTable(2, 2, [True, True, True, False])), str(LastTable(0, 1, [True])),
                      str(LastTable(3, 2, [True, True, False, False, True]))], ["1 | 0", "11 | 10", "| 1", "110 | 01"])


class LastLoses(Case):
    def check(self, book, begin, period, truths):
        """Check for this table, with the limits that let it, and with those that do not."""
        total = begin + period
        for most in {1, 2, total // 2, total - 1, total, total + 1, 2 * total, 1000}:
            if not 1 <= most <= 1000:
                continue
            if most < total:
                self.raised("TooMany", ["heaps", most], last_loses, book, most)
            else:
                last = last_loses(book, most)
                self.assertIs(type(last), LastTable)
                self.exactly((last.begin, last.period, last.truths), (begin, period, truths))

    def test_small_books(self):
        for book in [*oracle.random_books(5, 200), *oracle.random_books(6, 40, 6, 12, 40), Book(), Book(Down(0)), Book(Fixed(1, leave=2)), PAIR]:
            wanted = oracle.last_table(book.rules)
            if wanted is None:
                self.raised("TooMany", ["heaps", 1000], last_loses, book)
            else:
                self.check(book, *wanted)
                if sum(wanted[:2]) <= 1000:
                    last = last_loses(book)
                    self.exactly([last[n] for n in range(1500)], oracle.wins(book.rules, 1500, True))

    def test_great_books(self):
        rng = random.Random(7)
        self.check(Book.plain(400), 0, 401, (True, False) + (True,) * 399)
        self.check(Book.of([Down(to) for to in range(400)]), 2, 1, (True, False, True))
        for moduli in ([1], [6], [4, 6], [5]):
            rules = [oracle.random_rule(rng, moduli, 12, 400) for _ in range(400)]
            self.check(Book.of(rules), *oracle.last_table(rules))

    def test_late_books(self):
        for rules in ((Fixed(390), Fixed(391)), (Fixed(400, leave=400),), (Fixed(400),), (Fixed(300, leave=400),), (Fixed(200), Fixed(301)),
                      (Fixed(1), Fixed(400, leave=400)), (Down(400),), (Fixed(399), Fixed(400), Fixed(5))):
            wanted = oracle.last_table(rules)
            if wanted is None:
                self.raised("TooMany", ["heaps", 1000], last_loses, Book(*rules))
            else:
                self.check(Book(*rules), *wanted)

    def test_truths_that_only_seem_to_come_again(self):
        found = 0
        for rules, last in [((Fixed(390), Fixed(391)), Fixed(392, rest, modulus)) for modulus in (4, 5, 6) for rest in range(modulus)]:
            book = Book(*rules, last)
            row, line = oracle.wins(book.rules, 6000, True), oracle.wins(rules, 6000, True)
            heap = next((n for n in range(6000) if row[n] != line[n]), None)
            wanted = oracle.last_table(book.rules)
            if wanted is None or sum(wanted[:2]) > 1000:
                self.raised("TooMany", ["heaps", 1000], last_loses, book)
            else:
                self.check(book, *wanted)
            found += heap is not None and heap > 2000
        self.assertGreater(found, 0)

    def test_just_at_the_limit(self):
        for size in (198, 199, 200, 201, 300, 301):
            book = Book(Fixed(size, leave=400))
            self.check(book, 400, 2 * size, (True,) * (400 + size) + (False,) * size)
            if size <= 300:
                self.assertEqual(last_loses(book), last_loses(book, 1000))
            else:
                self.raised("TooMany", ["heaps", 1000], last_loses, book)
        self.check(Book(Down(400)), 401, 1, (True,) * 401 + (False,))
        self.check(Book(Fixed(1, leave=399)), 399, 2, (True,) * 400 + (False,))

    def test_limits(self):
        for wrong in beyond(1, 1000):
            self.raised("BadNumber", [wrong], last_loses, PAIR, wrong)
            self.raised("BadNumber", [wrong], last_loses, Book(Fixed(400), Fixed(399), Fixed(5)), most=wrong)
        self.raised("TooMany", ["heaps", 2], last_loses, PAIR, 2)
        self.assertEqual(last_loses(book=PAIR, most=3), LastTable(0, 3, [True, False, True]))


class SavingTakes(Case):
    def test_by_all_plays(self):
        for book in oracle.random_books(8, 80, 5, 6, 6):
            wanted = oracle.last_table(book.rules)
            if wanted is None or sum(wanted[:2]) > 1000:
                continue
            last = last_loses(book)
            row = oracle.wins(book.rules, 60, True)
            for n in range(60):
                takes = tuple(sorted(n - left for left in oracle.lefts(book.rules, n) if not row[left]))
                self.exactly(saving_takes(book, last, n), takes)
                self.exactly(bool(takes), row[n] and bool(oracle.lefts(book.rules, n)))

    def test_by_any_table(self):
        rng = random.Random(9)
        for book in oracle.random_books(10, 60, 5, 6, 6):
            rows = random_rows(rng)
            for n in (*range(20), BIG, BIG - 3):
                takes = sorted(n - left for left in oracle.lefts(book.rules, n) if not told(*rows, left))
                self.exactly(saving_takes(book, LastTable(*rows), n), tuple(takes))

    def test_named(self):
        last = last_loses(PAIR)
        self.exactly([saving_takes(PAIR, last, n) for n in range(7)], [(), (), (1,), (2,), (), (1,), (2,)])
        self.exactly(saving_takes(n=5, last=last, book=PAIR), (1,))
        both = Book(Fixed(1), Down(1))
        self.exactly(saving_takes(both, LastTable(0, 2, [True, False]), 4), (1, 3))

    def test_errors(self):
        for wrong in no_heaps():
            for book in (PAIR, Book()):
                self.raised("BadSize", [wrong], saving_takes, book, LastTable(0, 1, [True]), wrong)


class ShowsLast(Case):
    def tables(self, seed, count):
        for book in oracle.random_books(seed, count, 5, 6, 10):
            rows = oracle.last_table(book.rules)
            if rows is not None and max(rows[:2]) <= 1000:
                yield book, rows

    def test_right_and_wrong_tables(self):
        rng = random.Random(11)
        pairs = list(self.tables(12, 80))
        for book, (begin, period, truths) in pairs:
            self.exactly(shows_last(book, LastTable(begin, period, truths)), True)
            self.exactly(shows_last(book, LastTable(begin + period, period, truths + truths[begin:])), True)
            for at in {len(truths) - 1, rng.randrange(len(truths)), rng.randrange(len(truths))} - {0}:
                changed = list(truths)
                changed[at] = not changed[at]
                self.exactly(shows_last(book, LastTable(begin, period, changed)), False)
            for _ in range(6):
                other = LastTable(*random_rows(rng))
                self.exactly(shows_last(book, other), other == LastTable(begin, period, truths))
        for book, rows in pairs[:20]:
            for _, others in pairs:
                self.exactly(shows_last(book, LastTable(*others)), rows == others)

    def test_tables_that_fail_far_on(self):
        failed = 0
        for rest in range(6):
            rules, last = (Fixed(390), Fixed(391)), Fixed(392, rest, 6)
            seeming = last_loses(Book(*rules))
            row = oracle.wins([*rules, last], 6000, True)
            right = all(row[n] == seeming[n] for n in range(6000))
            self.exactly([shows_last(Book(*rules), seeming), shows_last(Book(*rules, last), seeming)], [True, right])
            failed += not right and next(n for n in range(6000) if row[n] != seeming[n]) > 2000
        self.assertGreater(failed, 0)

    def test_great_tables(self):
        book = Book(Fixed(400, leave=400))
        self.exactly(shows_last(book, LastTable(400, 800, [True] * 800 + [False] * 400)), True)
        self.exactly(shows_last(book, LastTable(400, 800, [True] * 801 + [False] * 399)), False)
        self.exactly(shows_last(Book.plain(400), LastTable(0, 401, [True, False] + [True] * 399)), True)
        self.exactly(shows_last(Book.plain(400), LastTable(0, 400, [True, False] + [True] * 398)), False)

    def test_any_other_value(self):
        for thing in [*no_integers(), 0, "| 101", (0, 3, (True, False, True)), [True, False, True], Book(Fixed(1)).as_table(), PAIR]:
            self.exactly(shows_last(PAIR, thing), False)
        self.exactly([shows_last(Book(), LastTable(0, 1, [True])), shows_last(thing=LastTable(0, 3, [True, False, True]), book=PAIR)], [True, True])
        # Nothing can be taken from the heaps 0 and 1; only there who is to move wins for that.
        self.exactly([shows_last(Book(Fixed(2)), LastTable(0, 1, [True])), str(last_loses(Book(Fixed(2))))], [False, "| 1100"])


if __name__ == "__main__":
    unittest.main()
