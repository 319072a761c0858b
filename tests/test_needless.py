import itertools
import random
import unittest

import oracle
from cases import BIG, Case, beyond, no_heaps, no_integers, no_rules
from freetakes.books import Book
from freetakes.needless import fewest, is_least, least_book, needed_at, needless, serving, shows_needed
from freetakes.rules import Down, Fixed
from freetakes.tables import table_of
from test_look_tables import tables_of_books

FAR = 500

# Books with their least books and the ones with the fewest rules; the first three have several with as few.
UNLIKE = [
    ("fixed 1 rest 3 of 4 leave 1, fixed 2 rest 0 of 2 leave 1, fixed 2 rest 1 of 2, fixed 2 rest 0 of 4, fixed 3 rest 0 of 2 leave 1, "
     "down 0 rest 2 of 4, down 1 rest 0 of 2",
     "fixed 1 rest 3 of 4 leave 1, fixed 2 rest 0 of 2 leave 1, fixed 2 rest 1 of 2, fixed 3 rest 0 of 2 leave 1, down 0 rest 2 of 4",
     "fixed 1 rest 3 of 4 leave 1, fixed 2 rest 0 of 2 leave 1, fixed 2 rest 1 of 2, down 1 rest 0 of 2"),
    ("fixed 1 rest 0 of 4, fixed 1 rest 2 of 4, fixed 2 rest 0 of 4 leave 2, fixed 2 rest 2 of 4 leave 1, fixed 3 rest 1 of 4, "
     "down 0 rest 0 of 2, down 1 rest 0 of 2",
     "fixed 1 rest 0 of 4, fixed 1 rest 2 of 4, fixed 2 rest 0 of 4 leave 2", "fixed 2 rest 0 of 4 leave 2, down 0 rest 0 of 2"),
    ("fixed 1 rest 0 of 2, fixed 1 rest 1 of 4, fixed 2 rest 1 of 2, fixed 2 rest 2 of 4, fixed 3 rest 1 of 2 leave 1, fixed 3 rest 3 of 4, "
     "down 0 rest 1 of 2, down 1 rest 2 of 4",
     "fixed 1 rest 0 of 2, fixed 1 rest 1 of 4, fixed 2 rest 1 of 2, fixed 2 rest 2 of 4, fixed 3 rest 3 of 4",
     "fixed 1 rest 0 of 2, fixed 2 rest 1 of 2, fixed 2 rest 2 of 4, down 0 rest 1 of 2"),
    ("fixed 1 rest 0 of 2, fixed 1 rest 1 of 4, fixed 2 rest 1 of 2, fixed 3 rest 0 of 4, down 0 rest 0 of 2, down 0 rest 1 of 4, down 1 rest 0 of 2",
     "fixed 1 rest 0 of 2, fixed 1 rest 1 of 4, fixed 2 rest 1 of 2, fixed 3 rest 0 of 4, down 0 rest 0 of 2",
     "down 0 rest 0 of 2, down 0 rest 1 of 4, down 1 rest 0 of 2"),
    ("fixed 1 leave 1, fixed 1 rest 1 of 4, fixed 2, fixed 2 leave 1, fixed 2 rest 0 of 4, fixed 3, down 0 rest 1 of 2",
     "fixed 1 leave 1, fixed 1 rest 1 of 4, fixed 2, fixed 3", "fixed 1 leave 1, fixed 2, down 0 rest 1 of 2"),
]
ENDLESS = Book(Fixed(390), Fixed(391), Fixed(392, 0, 6))
HALVES = Book(Fixed(1, 1, 4), Fixed(1, 3, 4), Down(0, 1, 2))


def books(seed, count, *sizes):
    """Books whose worths come again early, with their worths by the oracle."""
    found = []
    for book, rows in tables_of_books(seed, count, *sizes):
        if sum(rows[:2]) + 12 * rows[1] < FAR - 60:
            found.append((book, oracle.worths(book.rules, FAR)))
    return found


def first_needed(rules, rule, row):
    for n in range(len(row)):
        worth = oracle.needed(rules, rule, n, row)
        if worth is not None:
            return n, worth
    return None


def least_rules(rules, row):
    """The rules that stay if each, from the last one on, that changes no worth is left out."""
    kept = list(rules)
    for rule in reversed(rules):
        others = [one for one in kept if one is not rule]
        if oracle.worths(others, len(row)) == row:
            kept = others
    return kept


def fewest_rules(rules, row):
    """The fewest rules with these worths: all sets of rules, by their number and their indexes."""
    for many in range(len(rules) + 1):
        for chosen in itertools.combinations(range(len(rules)), many):
            if oracle.worths([rules[at] for at in chosen], len(row)) == row:
                return [rules[at] for at in chosen]


class Serving(Case):
    def test_heap_by_heap(self):
        rng = random.Random(1)
        for book, row in books(2, 60, 6, 6, 8):
            table = table_of(book)
            for n in [*rng.sample(range(120), 25), BIG - rng.randint(0, 30), BIG]:
                for worth in (0, 1, 2, 3, 5, 10 ** 39):
                    wanted = tuple([rule for rule in book.rules if oracle.stands(rule, n) and table[oracle.left(rule, n)] == worth])
                    if n < FAR:
                        self.assertEqual(wanted, tuple(
                            [rule for rule in book.rules if oracle.stands(rule, n) and row[oracle.left(rule, n)] == worth]))
                    got = serving(book, n, worth)
                    self.assertIs(type(got), tuple)
                    self.assertEqual(got, wanted)
        self.assertEqual(serving(worth=0, heap=5, book=Book.plain(5)), (Fixed(5),))
        self.assertEqual(serving(Book(), 5, 0), ())

    def test_greater_worths_are_served_too(self):
        # The heap 3 has the worth 0 and leaves the heaps 2 and 1 of the worths 2 and 1.
        self.exactly([[str(rule) for rule in serving(Book.plain(2), 3, worth)] for worth in range(4)], [[], ["fixed 2"], ["fixed 1"], []])

    def test_errors(self):
        for book in (Book.plain(2), Book(), ENDLESS):
            for wrong in no_heaps():
                self.raised("BadSize", [wrong], serving, book, wrong, 0)
                self.raised("BadSize", [wrong], serving, book, wrong, None)
            for wrong in [*no_integers(), -1, -5, -10 ** 39]:
                self.raised("BadNumber", [wrong], serving, book, 0, wrong)
                self.raised("BadNumber", [wrong], serving, book, BIG, wrong)
        self.raised("TooMany", ["heaps", 1000], serving, ENDLESS, 0, 0)


class Needed(Case):
    def test_heap_by_heap(self):
        seen = {True: 0, False: 0}
        for book, row in [*books(3, 120, 6, 6, 8), *books(4, 30, 10, 4, 3)]:
            wanted = [first_needed(book.rules, rule, row) for rule in book.rules]
            for rule, place in zip(book.rules, wanted):
                self.exactly(needed_at(book, rule), place)
                seen[place is None] += 1
            idle = tuple([rule for rule, place in zip(book.rules, wanted) if place is None])
            self.assertIs(type(needless(book)), tuple)
            self.assertEqual(needless(book), idle)
            self.exactly(is_least(book), not idle)
        self.assertGreater(min(seen.values()), 60)

    def test_without_a_rule(self):
        for book, row in books(5, 60, 6, 6, 8):
            for rule in book.rules:
                other = oracle.worths((book - rule).rules, FAR)
                place = needed_at(book, rule)
                if place is None:
                    self.assertEqual(row, other)
                else:
                    heap, worth = place
                    self.assertEqual(row[:heap], other[:heap])
                    self.exactly([other[heap], row[heap] > worth], [worth, True])

    def test_needed_far_on(self):
        # The second rule stands from the heap 800 on.
        book = Book(Fixed(1), Fixed(400, leave=400))
        row = oracle.worths(book.rules, 1300)
        self.exactly([needed_at(book, rule) for rule in book.rules], [first_needed(book.rules, rule, row) for rule in book.rules])
        self.exactly(needed_at(book, book.rules[1])[0], 800)
        for text in ("fixed 2 rest 4 of 6, fixed 14", "fixed 2 rest 1 of 2 leave 19, fixed 12 leave 10, fixed 14 leave 1",
                     "fixed 5 rest 1 of 2, fixed 6 leave 10, fixed 7 rest 3 of 5, fixed 9, fixed 14"):
            book = Book.read(text)
            row = oracle.worths(book.rules, 3000)
            self.exactly([needed_at(book, rule) for rule in book.rules], [first_needed(book.rules, rule, row) for rule in book.rules])

    def test_needed_late_in_the_turn_of_the_moduli(self):
        # The even size is needed at the heaps size, 2 * size + 1 and so on alone, its parts at those of their rests.
        for size, modulus in ((4, 6), (12, 5), (12, 4), (40, 3), (400, 6), (400, 5)):
            parts = [Fixed(size, rest, modulus) for rest in range(modulus)]
            book = Book(Fixed(1), *parts)
            self.exactly([table_of(book).begin, table_of(book).period], [0, size + 1])
            row = oracle.worths(book.rules, (size + 1) * modulus)
            wanted = [first_needed(book.rules, rule, row) for rule in parts]
            self.exactly([needed_at(book, rule) for rule in parts], wanted)
            self.exactly(max(heap for heap, _ in wanted), (size + 1) * modulus - 1)
            self.assertEqual([least_book(book), fewest(book)], [book, book])
            # The whole rule is the first one of its size in the order of rules.
            self.assertEqual(least_book(book | Fixed(size)), Book(Fixed(1), Fixed(size)))

    def test_parts_that_stand_for_one_another(self):
        rules = [Fixed(390), Fixed(391)]
        table = table_of(Book(*rules))
        for modulus, rest in ((4, 3), (3, 1), (6, 5)):
            rule = Fixed(390, rest, modulus)
            book = Book(*rules, rule)
            self.assertEqual(table_of(book), table)
            places = [needed_at(Book(*rules), one) for one in rules]
            self.exactly([needed_at(book, one) for one in book.rules], [places[0], None, places[1]])
        parts = [Fixed(390, rest, 4) for rest in range(4)] + [Fixed(390, rest, 3) for rest in range(3)]
        book = Book(Fixed(391), *parts)
        self.assertEqual(table_of(book), table)
        self.assertEqual(needless(book), tuple(rule for rule in book.rules if rule.size == 390))

    def test_errors(self):
        for book in (Book.plain(2), Book(), ENDLESS):
            for wrong in [*no_rules(), Fixed(3), Fixed(1, 0, 2), Fixed(1, leave=1), Down(1), book]:
                self.raised("NotIn", [wrong], needed_at, book, wrong)
        for call in (needless, is_least, least_book, fewest):
            self.raised("TooMany", ["heaps", 1000], call, ENDLESS)
        self.raised("TooMany", ["heaps", 1000], needed_at, ENDLESS, Fixed(390))
        self.exactly([needless(Book()), is_least(Book())], [(), True])
        self.exactly(needed_at(rule=Fixed(2), book=Book.plain(2)), (2, 0))


class LessBooks(Case):
    def test_least_book(self):
        fewer = 0
        for book, row in [*books(6, 60, 6, 6, 8), *books(7, 20, 9, 4, 3)]:
            found = least_book(book)
            self.assertIs(type(found), Book)
            self.assertEqual(found, Book.of(least_rules(book.rules, row)))
            self.exactly([is_least(found), oracle.worths(found.rules, FAR) == row], [True, True])
            fewer += len(found) < len(book)
        self.assertGreater(fewer, 20)

    def test_rules_that_need_one_another(self):
        # Each of these rules is needless; without the last one the other ones are needed.
        self.exactly([len(needless(HALVES)), str(least_book(HALVES)), str(fewest(HALVES))],
                     [3, "fixed 1 rest 1 of 4, fixed 1 rest 3 of 4", "down 0 rest 1 of 2"])
        book = Book(Fixed(1), Fixed(1, 0, 2), Fixed(1, 1, 2))
        self.exactly([str(least_book(book)), str(fewest(book))], ["fixed 1", "fixed 1"])
        self.exactly([str(least_book(Book())), str(fewest(Book()))], ["-", "-"])
        self.exactly(str(least_book(Book(Fixed(1), Fixed(3), Fixed(5)))), "fixed 1")

    def test_great_least_books(self):
        self.assertEqual(least_book(Book.plain(400)), Book.plain(400))
        self.exactly([needless(Book.plain(400)), is_least(Book.plain(400))], [(), True])
        more = [Fixed(size) for size in range(152, 302)]
        book = Book.plain(150) | Book.of(more)
        self.assertEqual(least_book(book), Book.plain(150))
        self.assertEqual(needless(book), tuple(more))
        rng = random.Random(11)
        book = Book.of([oracle.random_rule(rng, [1, 2, 3, 6], 12, 200) for _ in range(60)])
        row = oracle.worths(book.rules, 1000)
        self.assertEqual(least_book(book), Book.of(least_rules(book.rules, row)))
        self.exactly([needed_at(book, rule) for rule in book.rules], [first_needed(book.rules, rule, row) for rule in book.rules])

    def test_fewest(self):
        for book, row in [*books(8, 50, 6, 4, 4), *books(9, 14, 8, 3, 2)]:
            found = fewest(book)
            self.assertIs(type(found), Book)
            self.assertEqual(found, Book.of(fewest_rules(book.rules, row[:200])))
            self.assertEqual(oracle.worths(found.rules, FAR), row)

    def test_fewest_is_not_always_the_least_book(self):
        for text, least, few in UNLIKE:
            book = Book.read(text)
            row = oracle.worths(book.rules, 150)
            self.exactly([str(Book.of(least_rules(book.rules, row))), str(Book.of(fewest_rules(book.rules, row)))], [least, few])
            self.exactly([str(least_book(book)), str(fewest(book))], [least, few])

    def test_how_many_rules(self):
        self.assertEqual(fewest(Book.plain(8)), Book.plain(8))
        parts = Book.of([Fixed(1, rest, modulus) for modulus in (4, 6) for rest in range(modulus)])
        for book in (Book.plain(9), Book.plain(400), ENDLESS | Book.plain(6), parts):
            self.raised("TooMany", ["rules", 8], fewest, book)
        self.raised("TooMany", ["heaps", 1000], fewest, ENDLESS)
        self.raised("TooMany", ["heaps", 1000], fewest, ENDLESS | Book(*[Fixed(392, 0, 6, leave) for leave in range(1, 6)]))


class ShowsNeeded(Case):
    def test_heap_by_heap(self):
        for book, row in books(10, 25, 5, 6, 8):
            for rule in book.rules:
                for n in range(30):
                    wanted = oracle.needed(book.rules, rule, n, row)
                    for worth in range(5):
                        self.exactly(shows_needed(book, rule, n, worth), worth == wanted)

    def test_not_only_the_least_heap(self):
        book = Book(Fixed(1), Fixed(2), Fixed(4), Fixed(5))
        asked = [(1, 1, 0), (2, 2, 0), (1, 2, 1), (1, 5, 1), (2, 5, 0), (1, 4, 0)]
        self.exactly([shows_needed(book, Fixed(size), heap, worth) for size, heap, worth in asked], [True, True, True, False, False, False])
        self.exactly([shows_needed(Book(Fixed(1)), Fixed(1), n, 0) for n in range(6)], [False, True] * 3)

    def test_far_heaps_and_books_without_a_table(self):
        self.exactly([shows_needed(Book(Fixed(1)), Fixed(1), n, 0) for n in (19999, 20000, 20001, 20003)], [True, False, False, False])
        self.exactly([shows_needed(Book(Fixed(1, 0, 2)), Fixed(1, 0, 2), n, 0) for n in (20000, 20002)], [True, False])
        row = oracle.worths(ENDLESS.rules, 4700)
        for n in (390, 800, 2346, 4686):
            for rule in ENDLESS.rules:
                for worth in range(3):
                    self.exactly(shows_needed(ENDLESS, rule, n, worth), oracle.needed(ENDLESS.rules, rule, n, row) == worth)
        self.exactly(any(shows_needed(ENDLESS, Fixed(392, 0, 6), 4686, worth) for worth in range(3)), True)

    def test_any_values(self):
        book = Book(Fixed(1), Down(0))
        self.exactly([shows_needed(book, Fixed(1), 2, 1), shows_needed(worth=1, heap=2, rule=Fixed(1), book=book)], [True, True])
        for wrong in [*no_rules(), Fixed(2), Down(1), Fixed(1, 0, 2)]:
            self.exactly(shows_needed(book, wrong, 2, 1), False)
        for wrong in [*beyond(0, 20000), 10 ** 30]:
            self.exactly(shows_needed(book, Fixed(1), wrong, 1), False)
        for wrong in [*no_integers(), -1, 0, 2, 3, 400, 10 ** 39]:
            self.exactly(shows_needed(book, Fixed(1), 2, wrong), False)
        # True is no worth and no heap, where 1 is one.
        self.exactly([shows_needed(Book(Fixed(1)), Fixed(1), 1, 0), shows_needed(Book(Fixed(1)), Fixed(1), True, 0),
                      shows_needed(Book(Fixed(1)), Fixed(1), 1, False), shows_needed(book, Fixed(1), 2, True)], [True, False, False, False])

    def test_it_serves_no_greater_worth(self):
        # The heap 3 leaves worths above its own, 0, and no rule is needed there.
        self.exactly([shows_needed(Book.plain(2), rule, 3, worth) for rule in Book.plain(2).rules for worth in range(4)], [False] * 8)


if __name__ == "__main__":
    unittest.main()
