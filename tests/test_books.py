import random
import unittest

import oracle
from cases import BIG, Case, beyond, no_heaps, no_integers, no_rules
from freetakes.books import Book
from freetakes.rules import Down, Fixed
from freetakes.tables import Table, table_of
from oracle import many_rules, place

FOUR, WHOLE = Fixed(4, 1, 3, leave=2), Down(0, 1, 3)


class Making(Case):
    def test_rules_in_order_each_once(self):
        rng = random.Random(1)
        for _ in range(60):
            rules = oracle.random_rules(rng, rng.randint(0, 12))
            wanted = sorted({place(rule) for rule in rules})
            for told in (rules, rules[::-1], rules + rules, rng.sample(rules, len(rules))):
                for book in (Book(*told), Book.of(told), Book.of(tuple(told))):
                    self.assertIs(type(book.rules), tuple)
                    self.assertEqual([place(rule) for rule in book.rules], wanted)
                    self.exactly(len(book), len(wanted))

    def test_an_example(self):
        book = Book(FOUR, Fixed(1), WHOLE, Fixed(1))
        self.exactly([len(book), book.modulus, book.start, book.reach, bool(book)], [3, 3, 6, 4, True])
        self.assertEqual(book.rules, (Fixed(1), FOUR, WHOLE))

    def test_without_rules(self):
        for book in (Book(), Book.of([]), Book.of(()), Book.plain(0), Book.read("-")):
            self.assertEqual(book.rules, ())
            self.exactly([len(book), book.modulus, book.start, book.reach, bool(book), str(book)], [0, 1, 0, 0, False, "-"])
            self.exactly([book.takes(5), book.lefts(5), book(5)], [(), (), 0])

    def test_numbers_of_a_book(self):
        for book in oracle.random_books(2, 100, 8):
            starts = [rule.size + rule.leave if isinstance(rule, Fixed) else rule.to + 1 for rule in book.rules]
            self.exactly(book.start, max(starts, default=0))
            self.exactly(book.reach, max([rule.size for rule in book.rules if isinstance(rule, Fixed)], default=0))
            self.exactly(book.modulus, next(k for k in range(1, 61) if all(k % rule.modulus == 0 for rule in book.rules)))
        self.exactly([Book(Down(400)).start, Book(Down(400)).reach, Book(Fixed(400, 0, 6, 400)).start], [401, 0, 800])

    def test_no_rules(self):
        good = [Fixed(1), Down(0), FOUR]
        for wrong in no_rules():
            for at in range(4):
                told = good[:at] + [wrong] + good[at:]
                self.raised("BadBook", [at], Book, *told)
                self.raised("BadBook", [at], Book.of, told)
                self.raised("BadBook", [at], Book.of, tuple(told) + (None, wrong))

    def test_of_what_is_no_list(self):
        for wrong in [*no_integers(), 0, 1, {Fixed: 1}, iter([Fixed(1)]), Book(Fixed(1)), Fixed(1), "fixed 1"]:
            if not isinstance(wrong, (list, tuple)):
                self.raised("BadBook", [None], Book.of, wrong)
        self.assertEqual(Book.of(rules=[Fixed(1)]), Book(Fixed(1)))

    def test_later_changes_of_the_list(self):
        told = [Fixed(1), Fixed(2)]
        book = Book.of(told)
        told.append(Fixed(3))
        told[0] = None
        self.assertEqual(str(book), "fixed 1, fixed 2")

    def test_the_common_modulus(self):
        for moduli, common in [((1, 2, 3, 4, 6), 12), ((3, 4), 12), ((5, 2), 10), ((4, 6), 12), ((5,), 5), ((6,), 6), ((2, 3), 6)]:
            book = Book.of([Fixed(1, 0, modulus) for modulus in moduli])
            self.exactly(book.modulus, common)
        for moduli in ((5, 3), (3, 5), (5, 4), (6, 5), (5, 2, 3), (4, 3, 5), (1, 4, 1, 5)):
            self.raised("TooMany", ["modulus", 12], Book.of, [Fixed(1, 0, modulus) for modulus in moduli])
            self.raised("TooMany", ["modulus", 12], Book, *[Down(1, 0, modulus) for modulus in moduli])

    def test_the_number_of_rules(self):
        self.exactly(Book.MOST, 400)
        self.assertEqual(len(Book(*many_rules(400))), 400)
        self.assertEqual(len(Book.of(many_rules(400) + many_rules(400))), 400)
        self.raised("TooMany", ["rules", 400], Book, *many_rules(401))
        self.raised("TooMany", ["rules", 400], Book.of, many_rules(401))

    def test_order_of_errors(self):
        self.raised("BadBook", [2], Book, Fixed(1, 0, 5), Fixed(1, 0, 3), 3, 4)
        self.raised("BadBook", [401], Book, *many_rules(401), None)
        self.raised("TooMany", ["modulus", 12], Book, *many_rules(401), Fixed(1, 0, 5), Fixed(1, 0, 3))

    def test_plain(self):
        for most in (0, 1, 2, 17, 399, 400):
            book = Book.plain(most)
            self.assertEqual(book.rules, tuple(Fixed(size) for size in range(1, most + 1)))
        self.assertEqual(Book.plain(most=2), Book(Fixed(1), Fixed(2)))
        for wrong in beyond(0, 400):
            self.raised("BadNumber", [wrong], Book.plain, wrong)

    def test_methods_stand_in_the_class(self):
        for name in ("of", "plain", "takes", "lefts", "is_part_of", "as_table", "read", "__or__", "__and__", "__sub__",
                     "__xor__", "__eq__", "__str__", "__len__", "__bool__", "__contains__", "__call__"):
            self.assertIn(name, vars(Book))


class Asking(Case):
    def test_in(self):
        book = Book(FOUR, Fixed(1), WHOLE)
        for rule in (Fixed(4, 1, 3, 2), Fixed(1), Down(0, 1, 3)):
            self.exactly(rule in book, True)
        for thing in (Fixed(4, 1, 3), Fixed(2), Down(0), Down(1, 1, 3), Fixed(1, 0, 2)):
            self.exactly([thing in book, thing not in book], [False, True])
        for thing in [*no_rules(), Fixed(1).rank, str(Fixed(1)), book]:
            self.exactly(thing in book, False)

    def test_takes_and_lefts(self):
        for book in oracle.random_books(3, 40, 8):
            for n in [*range(50), *range(BIG - 12, BIG + 1)]:
                lefts = oracle.lefts(book.rules, n)
                self.exactly(book.lefts(n), tuple(lefts))
                self.exactly(book.takes(n), tuple(n - left for left in reversed(lefts)))

    def test_a_number_is_told_once(self):
        book = Book(Fixed(3), Fixed(3, 1, 2), Fixed(3, leave=4), Down(4), Fixed(7))
        self.exactly([book.takes(7), book.lefts(7)], [(3, 7), (0, 4)])
        self.exactly([book.takes(n=8), book.lefts(n=8)], [(3, 4, 7), (1, 4, 5)])

    def test_no_heaps(self):
        for book in (Book(), Book(FOUR, Fixed(1), WHOLE)):
            for wrong in no_heaps():
                self.raised("BadSize", [wrong], book.takes, wrong)
                self.raised("BadSize", [wrong], book.lefts, wrong)
                self.raised("BadSize", [wrong], book, wrong)

    def test_is_part_of(self):
        books = [*oracle.random_books(4, 30, 3, 2, 1), Book()]
        for one in books:
            for other in books:
                wanted = {place(rule) for rule in one.rules} <= {place(rule) for rule in other.rules}
                self.exactly(one.is_part_of(other), wanted)
        self.assertTrue(Book(Fixed(1)).is_part_of(other=Book.plain(2)))
        for wrong in [*no_rules(), Fixed(1), Down(0)]:
            if not isinstance(wrong, Book):
                self.raised("BadBook", [0], Book(Fixed(1)).is_part_of, wrong)
                self.raised("BadBook", [0], Book().is_part_of, wrong)

    def test_equality(self):
        books = [*oracle.random_books(5, 30, 3, 2, 1), Book()]
        for one in books:
            for other in books:
                wanted = [place(rule) for rule in one.rules] == [place(rule) for rule in other.rules]
                self.exactly([one == other, one != other], [wanted, not wanted])
        # Equal worths, unlike rules.
        self.assertFalse(Book(Fixed(1)) == Book(Fixed(1), Fixed(3)))
        self.assertFalse(Book(Fixed(2)) == Book(Fixed(2, 0, 2), Fixed(2, 1, 2)))
        for book in (Book(), Book(Fixed(1))):
            for thing in [*no_rules(), Fixed(1), book.rules, list(book.rules), str(book), len(book), Table(0, 1, [0])]:
                if not isinstance(thing, Book):
                    self.assertFalse(book == thing or thing == book)


class Worths(Case):
    def test_as_table(self):
        for book in oracle.random_books(6, 30):
            self.assertIs(type(book.as_table()), Table)
            self.assertEqual(book.as_table(), table_of(book))
        pair = Book(Fixed(1), Fixed(4))
        self.assertEqual(pair.as_table(5), Table(0, 5, [0, 1, 0, 1, 2]))
        self.raised("TooMany", ["heaps", 4], pair.as_table, 4)
        self.raised("TooMany", ["heaps", 4], pair.as_table, most=4)
        for wrong in beyond(1, 1000):
            self.raised("BadNumber", [wrong], pair.as_table, wrong)

    def test_the_worth_of_a_heap(self):
        for book in oracle.random_books(7, 40):
            if oracle.table(book.rules) is not None and sum(oracle.table(book.rules)[:2]) <= 1000:
                self.exactly([book(n) for n in range(120)], oracle.worths(book.rules, 120))
        pair = Book.plain(2)
        self.exactly([pair(0), pair(5), pair(n=10 ** 30)], [0, 2, 1])

    def test_errors_of_a_call(self):
        endless = Book(Fixed(390), Fixed(391), Fixed(392, 0, 6))
        for n in (0, 1, 5, BIG):
            self.raised("TooMany", ["heaps", 1000], endless, n)
            self.raised("TooMany", ["heaps", 1000], endless, n)
        for wrong in no_heaps():
            self.raised("BadSize", [wrong], endless, wrong)
        self.raised("TooMany", ["heaps", 1000], endless.as_table)
        self.raised("TooMany", ["heaps", 7], endless.as_table, 7)


if __name__ == "__main__":
    unittest.main()
