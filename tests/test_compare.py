import random
import unittest

import oracle
from cases import Case, no_integers
from freetakes.books import Book
from freetakes.compare import Alike, Comparison, Parted, beside, compare, parted_alone, same_takes, shows_parted
from freetakes.reckon import worths_below
from freetakes.rules import Down, Fixed
from freetakes.tables import Table
from test_look_tables import tables_of_books
from test_tables import random_rows

FAR = 700
ENDLESS = Book(Fixed(390), Fixed(391), Fixed(392, 0, 6))


def agreeing_longest(one_period, other_period, begin):
    """Two tables with these periods that agree as long as unlike ones with them can; the least heap with unlike worths."""
    many = one_period + other_period - 2
    letters = list(range(many))
    for period in (one_period, other_period):
        for at in range(many - period):
            mine, yours = letters[at], letters[at + period]
            letters = [mine if letter == yours else letter for letter in letters]
    word = [0 if letter == letters[0] else 1 for letter in letters]
    ahead = [0] * begin
    tables = [Table(begin, period, ahead + (word * 2)[:period]) for period in (one_period, other_period)]
    return tables[0], tables[1], begin + many


def things(seed, count):
    """Books and Tables, each with its worths by the oracle."""
    rng = random.Random(seed)
    found = []
    for book, rows in tables_of_books(seed, count, 4, 5, 6):
        if sum(rows[:2]) <= 300:
            row = oracle.worths(book.rules, FAR)
            found += [(book, row), (Table(*rows), row)]
    for _ in range(count // 2):
        table = Table(*random_rows(rng))
        found.append((table, [table[n] for n in range(FAR)]))
    return found


class Answers(Case):
    def test_heap_by_heap(self):
        held = things(1, 60)
        rng = random.Random(2)
        pairs = [(rng.choice(held), rng.choice(held)) for _ in range(700)] + [(one, one) for one in held]
        pairs += [(held[at], held[at + 1]) for at in range(0, len(held) - 1, 2)]
        alike = 0
        for (one, row), (other, line) in pairs:
            heap = next((n for n in range(FAR) if row[n] != line[n]), None)
            answer = compare(one, other)
            self.exactly(bool(answer), heap is None)
            if heap is None:
                alike += 1
                self.assertIs(type(answer), Alike)
                self.assertIsNone(beside(one, other))
            else:
                self.assertIs(type(answer), Parted)
                self.exactly([answer.heap, answer.first, answer.second], [heap, row[heap], line[heap]])
                self.exactly(beside(one, other), (heap, min(row[heap], line[heap])))
            alone = next((n for n in range(FAR) if (row[n] == 0) != (line[n] == 0)), None)
            self.exactly(parted_alone(one, other), alone)
        self.assertTrue(alike > 50)

    def test_free_rules_keep_books_alike(self):
        pair = Book.plain(2)
        for other in (Book(Fixed(1), Fixed(2), Fixed(4)), Book(Fixed(2), Fixed(4)), pair.as_table(), Table(0, 3, [0, 1, 2])):
            heaps = [oracle.worths(thing.rules, 60) if isinstance(thing, Book) else [thing[n] for n in range(60)] for thing in (pair, other)]
            self.exactly([bool(compare(pair, other)), bool(compare(other, pair))], [heaps[0] == heaps[1]] * 2)

    def test_tables_that_agree_as_long_as_they_can(self):
        for one_period, other_period, begin in [(5, 8, 0), (8, 5, 0), (2, 3, 4), (7, 12, 1), (13, 8, 30), (55, 89, 0), (89, 34, 100)]:
            one, other, heap = agreeing_longest(one_period, other_period, begin)
            answer = compare(one, other)
            self.exactly([answer.heap, {answer.first, answer.second} == {0, 1}], [heap, True])
            self.exactly([parted_alone(one, other), beside(one, other)], [heap, (heap, 0)])
            self.exactly([shows_parted(one, other, heap, one[heap], other[heap]), shows_parted(one, other, heap - 1, 0, 1)], [True, False])

    def test_great_tables(self):
        one, other, heap = agreeing_longest(999, 1000, 1000)
        self.exactly([compare(one, other).heap, parted_alone(other, one), heap], [2997, 2997, 2997])
        ahead = Table(1000, 1, [0] * 999 + [1, 0])
        self.exactly([compare(ahead, Table(0, 1, [0])).heap, beside(Table(0, 1, [0]), ahead)], [999, (999, 0)])

    def test_parted_but_not_alone(self):
        one, other = Table(0, 3, [0, 1, 2]), Table(0, 3, [0, 1, 1])
        self.exactly([parted_alone(one, other), beside(one, other), beside(other, one)], [None, (2, 1), (2, 1)])
        # Unlike at 1, alone only at 5.
        one, other = Table(0, 6, [0, 1, 2, 0, 1, 0]), Table(0, 6, [0, 3, 2, 0, 1, 4])
        self.exactly([compare(one, other).heap, parted_alone(one, other), beside(one, other)], [1, 5, (1, 1)])

    def test_by_name(self):
        one, other = Book.plain(2), Book.plain(1)
        self.exactly([compare(other=other, one=one).first, parted_alone(other=other, one=one), beside(other=other, one=one),
                      same_takes(other=other, one=one), shows_parted(second=0, first=2, heap=2, other=other, one=one)],
                     [2, 2, (2, 0), 2, True])

    def test_books_without_a_table(self):
        for one, other in [(ENDLESS, Book()), (Book(), ENDLESS), (ENDLESS, ENDLESS), (ENDLESS, Table(0, 1, [0])), (Table(0, 1, [0]), ENDLESS)]:
            for call in (compare, parted_alone, beside):
                self.raised("TooMany", ["heaps", 1000], call, one, other)


class Classes(Case):
    def test_of_any_values(self):
        self.assertTrue(issubclass(Alike, Comparison) and issubclass(Parted, Comparison))
        self.assertFalse(issubclass(Alike, Parted) or issubclass(Parted, Alike))
        values = [*no_integers(), 0, 5]
        for at, value in enumerate(values):
            heap, first, second = value, values[at - 1], values[at - 2]
            for parted in (Parted(heap, first, second), Parted(second=second, first=first, heap=heap)):
                self.assertTrue(parted.heap is heap and parted.first is first and parted.second is second)
                self.exactly(bool(parted), False)
        self.exactly(bool(Alike()), True)

    def test_equality(self):
        self.exactly([Alike() == Alike(), Alike() != Alike(), Parted(1, 2, 3) == Parted(1, 2, 3)], [True, False, True])
        for other in (Parted(0, 2, 3), Parted(1, 0, 3), Parted(1, 2, 0), Parted(1, 3, 2), Alike(), (1, 2, 3), [1, 2, 3], False, True, None):
            self.exactly([Parted(1, 2, 3) == other, other == Parted(1, 2, 3)], [False, False])
        for other in (*no_integers(), Parted(0, 0, 0), 1):
            self.exactly([Alike() == other, other == Alike()], [False, False])
        # Values are compared as Python compares them.
        self.exactly([Parted(True, [], {}) == Parted(1, [], {}), Parted(Fixed(1), (), "") == Parted(Fixed(1), (), "")], [True, True])
        for kind in (Alike, Parted):
            self.assertIn("__eq__", vars(kind))
            self.assertIn("__bool__", vars(kind))


class SameTakes(Case):
    def test_heap_by_heap(self):
        books = oracle.random_books(3, 60, 5, 3, 3)
        rng = random.Random(4)
        same = 0
        for _ in range(600):
            one = rng.choice(books)
            other = rng.choice([one, rng.choice(books), one ^ Fixed(rng.randint(1, 3), leave=rng.randint(0, 3)), one ^ Down(1)])
            wanted = next((n for n in range(200) if oracle.lefts(one.rules, n) != oracle.lefts(other.rules, n)), None)
            self.exactly([same_takes(one, other), same_takes(other, one)], [wanted, wanted])
            same += wanted is None
        self.assertTrue(same > 50)

    def test_one_rule_put_in(self):
        for book in oracle.random_books(5, 40, 5, 3, 3):
            for rule in (Fixed(1), Fixed(2, 1, 2), Fixed(3, 0, 3, 4), Down(0), Down(2, 1, 2), Down(3, 2, 3), Fixed(6, leave=6)):
                if (book.modulus, rule.modulus) in ((5, 3), (10, 3)):
                    continue
                other = book | rule
                wanted = next((n for n in range(200) if oracle.lefts(book.rules, n) != oracle.lefts(other.rules, n)), None)
                self.exactly(same_takes(book, other), wanted)

    def test_alike_with_other_takes_and_the_same_takes_by_other_rules(self):
        self.exactly([same_takes(Book(Fixed(1), Fixed(4)), Book(Fixed(1), Fixed(4), Fixed(6))),
                      same_takes(Book(Fixed(2)), Book(Fixed(2, 0, 2), Fixed(2, 1, 2))), same_takes(Book(), Book())], [6, None, None])
        self.exactly(same_takes(Book(Fixed(4)), Book(*[Fixed(4, rest, 6) for rest in range(6)])), None)
        self.exactly(same_takes(Book(Down(3)), Book(Down(3), Fixed(2, leave=0))), 2)
        # Only at the heap 6 does Fixed(3) take what Down(3) takes.
        self.exactly(same_takes(Book(Down(3), Fixed(3)), Book(Down(3), Fixed(3, 0, 2), Fixed(3, 1, 2, 7))), 3)
        self.exactly(same_takes(Book(Down(3), Fixed(3, leave=3)), Book(Down(3), Fixed(3, leave=4))), None)
        self.exactly(same_takes(Book(Down(3), Fixed(3, leave=2)), Book(Down(3), Fixed(3, leave=4))), 5)

    def test_far_heaps(self):
        self.exactly(same_takes(Book(Fixed(400, leave=400)), Book()), 800)
        self.exactly(same_takes(Book(Fixed(400, 5, 6, 400)), Book()), 803)
        self.exactly(same_takes(Book(Fixed(400, 0, 6, 400)), Book(Fixed(400, 0, 3, 400))), 801)
        full, wide = Book(*[Down(400, rest, 6) for rest in range(6)]), Book(*[Down(400, rest, 4) for rest in range(4)])
        self.exactly(same_takes(full, wide), None)
        self.exactly(same_takes(full - Down(400, 5, 6), wide), 401)
        self.exactly(same_takes(full - Down(400, 4, 6), wide), 406)
        most = [Fixed(1, rest, 4) for rest in range(4)], [Fixed(1, rest, 6) for rest in range(6)], [Fixed(1, rest, 5) for rest in range(5)]
        self.exactly([same_takes(Book.of(most[0]), Book.of(most[2])), same_takes(Book.of(most[1]), Book.of(most[2]))], [None, None])
        self.exactly(same_takes(Book.of(most[1][:5]), Book.of(most[2])), 5)

    def test_unlike_moduli(self):
        # One stands at all heaps but 11 by 12, the other one at all but 9 by 10: from 50 on first parted at 69.
        one = Book(Down(49, 0, 3), Down(49, 1, 3), Down(49, 0, 4), Down(49, 1, 4), Down(49, 2, 4))
        other = Book(Down(49, 0, 2), Down(49, 0, 5), Down(49, 1, 5), Down(49, 2, 5), Down(49, 3, 5))
        self.exactly([same_takes(one, other), same_takes(other, one)], [69, 69])

    def test_without_tables(self):
        self.exactly([same_takes(ENDLESS, ENDLESS), same_takes(ENDLESS, Book()), same_takes(Book.plain(400), Book.plain(399))],
                     [None, 390, 400])


class Shown(Case):
    def test_heap_by_heap(self):
        held = things(6, 40)
        rng = random.Random(7)
        shown = 0
        for _ in range(500):
            (one, row), (other, line) = rng.choice(held), rng.choice(held)
            least = next((n for n in range(FAR) if row[n] != line[n]), None)
            for heap in {least, rng.randrange(30), 0} - {None}:
                for first, second in {(row[heap], line[heap]), (line[heap], row[heap]), (row[heap] + 1, line[heap]), (row[heap], line[heap] + 1)}:
                    wanted = heap == least and (first, second) == (row[heap], line[heap])
                    self.exactly(shows_parted(one, other, heap, first, second), wanted)
                    shown += wanted
        self.assertTrue(shown > 100)

    def test_far_heaps(self):
        one, other = Book(Fixed(390), Fixed(391)), ENDLESS
        row, line = oracle.worths(one.rules, 4687), oracle.worths(other.rules, 4687)
        self.exactly(shows_parted(one, other, 4686, row[4686], line[4686]), True)
        self.exactly(shows_parted(other, one, 4686, line[4686], row[4686]), True)
        self.exactly([shows_parted(one, other, 4685, row[4685], line[4685]), shows_parted(one, other, 4687, 0, 1)], [False, False])
        self.exactly(shows_parted(one, one, 20000, 0, 0), False)

    def test_parted_just_at_the_greatest_heap(self):
        def moved(text, by):
            """The rules of a book, all heaps moved up."""
            rules = Book.read(text).rules
            return Book(*[Fixed(rule.size, (rule.rest + by) % rule.modulus, rule.modulus, rule.leave + by) for rule in rules])
        # Not moved, these two are parted first at 19966.
        texts = "fixed 363, fixed 377 rest 2 of 4", "fixed 363, fixed 377 rest 2 of 4, fixed 367 rest 2 of 4 leave 200"
        for by in (33, 34, 35):
            one, other = moved(texts[0], by), moved(texts[1], by)
            row, line = worths_below(one, 19967 + by), worths_below(other, 19967 + by)
            self.exactly([row[:-1] == line[:-1], row[-1] == line[-1]], [True, False])
            self.exactly(shows_parted(one, other, 19966 + by, row[-1], line[-1]), 19966 + by <= 20000)

    def test_tables_and_great_heaps(self):
        one, other, heap = agreeing_longest(999, 1000, 1000)
        self.exactly(shows_parted(one, other, heap, one[heap], other[heap]), True)
        for heap in (20000, 20001, 10 ** 30):
            self.exactly(shows_parted(Book.plain(400), Book.plain(400), heap, 0, 0), False)

    def test_other_values(self):
        one, other = Book.plain(2), Book.plain(1)
        self.exactly([shows_parted(one, other, 2, 2, 0), shows_parted(one, other, 2, 0, 2), shows_parted(one, other, 5, 2, 1)], [True, False, False])
        for wrong in [*no_integers(), -1, 20001, 10 ** 39]:
            self.exactly(shows_parted(one, other, wrong, 2, 0), False)
        for wrong in [*no_integers(), -1, 1, 3, 10 ** 39]:
            self.exactly(shows_parted(one, other, 2, wrong, 0), False)
            self.exactly(shows_parted(one, other, 2, 2, wrong), False)
        third, ones = Book(Fixed(1)), Book()
        self.exactly([shows_parted(third, ones, 1, 1, 0), shows_parted(third, ones, 1, True, 0), shows_parted(third, ones, 1, 1, False),
                      shows_parted(third, ones, True, 1, 0)], [True, False, False, False])


if __name__ == "__main__":
    unittest.main()
