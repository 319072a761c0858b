import random
import unittest

import oracle
from cases import BIG, Case, beyond, no_heaps, no_integers, no_rules
from freetakes.books import Book
from freetakes.free import Barred, Free, FreeAnswer, bars, free, free_among, is_free, least_leave
from freetakes.rules import Down, Fixed
from freetakes.tables import Table, table_of
from test_tables import random_rows

# Behind this heap the tables and rules of these tests come again, at most this many heaps on.
BEHIND, ROUND = 60, 72


def cases(seed, count):
    rng = random.Random(seed)
    for _ in range(count):
        table = Table(*random_rows(rng))
        yield table, oracle.random_rule(rng, [1, 2, 3, 4, 5, 6], 12, 12)


def barred_at(table, rule, n):
    return oracle.stands(rule, n) and table[n] == table[oracle.left(rule, n)]


def barred_heaps(table, rule, first, last):
    return [n for n in range(first, last + 1) if barred_at(table, rule, n)]


class Answers(Case):
    def test_heap_by_heap(self):
        seen = {True: 0, False: 0}
        for table, rule in cases(1, 1500):
            heaps = barred_heaps(table, rule, 0, BEHIND + 3 * ROUND)
            answer = free(table, rule)
            self.exactly([bool(answer), is_free(table, rule)], [not heaps, not heaps])
            self.assertIs(type(answer), Barred if heaps else Free)
            self.assertIs(answer.rule, rule)
            if heaps:
                self.exactly([answer.heap, answer.left], [heaps[0], oracle.left(rule, heaps[0])])
            seen[bool(answer)] += 1
        self.assertTrue(min(seen.values()) > 100)

    def test_great_tables(self):
        rng = random.Random(2)
        for _ in range(12):
            begin, period = rng.choice([(1000, 1000), (0, 997), (700, 300), (5, 991)])
            table = Table(begin, period, [0] + [rng.randrange(1, 400) for _ in range(begin + period - 1)])
            rule = oracle.random_rule(rng, [1, 5, 6], 400, 400)
            heaps = barred_heaps(table, rule, 0, begin + 800 + 6 * period)
            answer = free(table, rule)
            self.exactly(bool(answer), not heaps)
            if heaps:
                self.exactly([answer.heap, answer.left], [heaps[0], oracle.left(rule, heaps[0])])

    def test_barred_far_on(self):
        # 781 * 6 is the first heap of the right rest with the right worths.
        table = table_of(Book(Fixed(390), Fixed(391)))
        answer = free(table, Fixed(392, 0, 6))
        self.exactly([bool(answer), answer.heap, answer.left], [False, 4686, 4294])
        self.exactly(barred_heaps(table, Fixed(392, 0, 6), 0, 4686), [4686])

    def test_free_rules_change_no_worth(self):
        rng = random.Random(3)
        for book in oracle.random_books(4, 60, 4, 6, 6):
            rows = oracle.table(book.rules)
            if rows is None or max(rows[:2]) > 1000:
                continue
            table = Table(*rows)
            for rule in book.rules:
                self.assertTrue(is_free(table, rule))
            rule = oracle.random_rule(rng, [1, 2, 3], 8, 8)
            answer = free(table, rule)
            row, other = oracle.worths(book.rules, 300), oracle.worths([*book.rules, rule], 300)
            if answer:
                self.assertEqual(row, other)
            elif answer.heap < 300:
                self.assertEqual(row[:answer.heap], other[:answer.heap])
                self.assertNotEqual(row[answer.heap], other[answer.heap])

    def test_classes_and_equality(self):
        self.assertTrue(issubclass(Free, FreeAnswer) and issubclass(Barred, FreeAnswer))
        self.assertFalse(issubclass(Free, Barred) or issubclass(Barred, Free))
        table = table_of(Book(Fixed(1), Fixed(4)))
        answers = [free(table, Fixed(4)), free(table, Fixed(6)), free(table, Fixed(2)), free(table, Fixed(3)), free(table, Down(0)),
                   free(Table(0, 2, [0, 1]), Fixed(2, leave=3)), free(Table(0, 1, [0]), Fixed(2, leave=3)),
                   free(Table(0, 1, [0]), Fixed(2)), free(Table(1, 1, [0, 1]), Fixed(2)), free(Table(0, 1, [0]), Fixed(4))]
        for at, one in enumerate(answers):
            for place, other in enumerate(answers):
                same = (type(one), vars(one)) == (type(other), vars(other))
                self.exactly([one == other, one != other], [same, not same])
            for thing in [*no_integers(), one.rule, bool(one), 1, 0]:
                self.assertFalse(one == thing or thing == one)
        self.assertEqual(free(table, Fixed(4)), free(table=table, rule=Fixed(4)))
        self.assertFalse(free(table, Fixed(2)) == free(Table(3, 1, [0, 1, 2, 2]), Fixed(2)))
        # The same rule and the same heap left, at other heaps.
        self.exactly([free(Table(0, 2, [0, 1]), Down(0)).heap, free(Table(0, 3, [0, 1, 2]), Down(0)).heap], [2, 3])
        self.assertFalse(free(Table(0, 2, [0, 1]), Down(0)) == free(Table(0, 3, [0, 1, 2]), Down(0)))
        for kind in (Free, Barred):
            self.assertIn("__eq__", vars(kind))
            self.assertIn("__bool__", vars(kind))


class Bars(Case):
    def test_near(self):
        rng = random.Random(5)
        for table, rule in cases(6, 800):
            first = rng.randint(0, 40)
            wanted = barred_heaps(table, rule, first, BEHIND + 3 * ROUND)
            got = []
            for heap in bars(table, rule, first):
                if heap > BEHIND + 3 * ROUND:
                    break
                got.append(heap)
            self.exactly(got, wanted)

    def test_far_and_to_the_end(self):
        rng = random.Random(7)
        for table, rule in cases(8, 500):
            first = BIG - rng.randint(0, 2 * ROUND)
            wanted = barred_heaps(table, rule, first, BIG)
            self.exactly(list(bars(table, rule, first)), wanted)
            self.exactly(list(bars(first=first, rule=rule, table=table)), wanted)

    def test_it_begins_far_off_at_once(self):
        table = table_of(Book(Fixed(390), Fixed(391)))
        walk = bars(table, Fixed(392, 0, 6), 10 ** 29)
        wanted = [n for n in range(10 ** 29, 10 ** 29 + 20000) if barred_at(table, Fixed(392, 0, 6), n)]
        self.exactly([next(walk) for _ in wanted], wanted)

    def test_walks_that_end(self):
        again = Table(2, 2, (0, 0, 0, 1))
        self.exactly([list(bars(again, Fixed(3))), list(bars(again, Fixed(3), 4)), list(bars(again, Fixed(3), 5)),
                      list(bars(again, Fixed(1))), list(bars(again, Fixed(1, leave=2))), list(bars(again, Fixed(1), BIG))],
                     [[4], [4], [], [1, 2], [], []])

    def test_two_walks(self):
        again = Table(2, 2, (0, 0, 0, 1))
        one, other, third = bars(again, Fixed(2)), bars(again, Fixed(2), 5), bars(again, Fixed(1))
        self.exactly([next(one), next(other), next(one), next(third), next(other), next(one), next(one), next(third), next(other)],
                     [2, 5, 4, 1, 6, 5, 6, 2, 7])
        self.exactly([list(third), next(one)], [[], 7])

    def test_errors(self):
        for rule in (Fixed(2), Fixed(1, leave=2), Down(0)):
            for wrong in no_heaps():
                self.raised("BadSize", [wrong], lambda: next(bars(Table(2, 2, (0, 0, 0, 1)), rule, wrong)))


class LeastLeave(Case):
    def test_heap_by_heap(self):
        rng = random.Random(9)
        nones = 0
        for _ in range(1200):
            table = Table(*random_rows(rng))
            size, modulus = rng.randint(1, 12), rng.randint(1, 6)
            rest = rng.randrange(modulus)
            rule = Fixed(size, rest, modulus)
            heaps = barred_heaps(table, rule, 0, BEHIND + 3 * ROUND)
            wanted = max([n - size + 1 for n in heaps], default=0)
            wanted = wanted if wanted <= table.begin else None
            self.exactly(least_leave(table, size, rest, modulus), wanted)
            nones += wanted is None
            if wanted is not None:
                self.exactly(is_free(table, rule.leaving(wanted)), True)
                if wanted > 0:
                    self.exactly(is_free(table, rule.leaving(wanted - 1)), False)
        self.assertTrue(100 < nones < 1100)

    def test_rest_and_modulus_may_be_left_out(self):
        rng = random.Random(11)
        for _ in range(200):
            table, size = Table(*random_rows(rng)), rng.randint(1, 12)
            self.exactly(least_leave(table, size), least_leave(table, size, 0, 1))

    def test_above_the_leaves_of_rules(self):
        table = Table(1000, 2, [0] * 1000 + [0, 1])
        self.exactly([table.begin, least_leave(table, 1), least_leave(table, 400), least_leave(table, 399, 0, 2)], [1000, 1000, None, 1000])
        self.exactly(least_leave(table, modulus=2, rest=1, size=399), 601)

    def test_errors(self):
        table = Table(0, 2, [0, 1])
        for wrong in beyond(1, 400):
            self.raised("BadRule", ["size"], least_leave, table, wrong)
            self.raised("BadRule", ["size"], least_leave, table, wrong, 5, 0)
        for wrong in beyond(1, 6):
            self.raised("BadRule", ["modulus"], least_leave, table, 1, None, wrong)
        for modulus in range(1, 7):
            for wrong in beyond(0, modulus - 1):
                self.raised("BadRule", ["rest"], least_leave, table, 1, wrong, modulus)


class FreeAmong(Case):
    def test_in_the_order_in_which_they_were_passed(self):
        rng = random.Random(10)
        for _ in range(200):
            table = Table(*random_rows(rng))
            rules = [oracle.random_rule(rng, [1, 2, 3, 6], 8, 8) for _ in range(rng.randint(0, 6))]
            rules += rng.sample(rules, len(rules) // 2)
            wanted = [rule for rule in rules if not barred_heaps(table, rule, 0, BEHIND + 3 * ROUND)]
            got = free_among(table, *rules)
            self.assertIs(type(got), tuple)
            self.assertEqual([id(rule) for rule in got], [id(rule) for rule in wanted])

    def test_edges(self):
        table = table_of(Book(Fixed(1), Fixed(4)))
        self.exactly([free_among(table), free_among(table, Fixed(2))], [(), ()])
        self.assertEqual(free_among(table, Fixed(6), Fixed(2), Fixed(1), Fixed(6)), (Fixed(6), Fixed(1), Fixed(6)))

    def test_errors(self):
        table = Table(0, 2, [0, 1])
        good = [Fixed(1), Down(0), Fixed(2)]
        for wrong in no_rules():
            for at in range(4):
                self.raised("BadBook", [at], free_among, table, *good[:at], wrong, *good[at:], None)


if __name__ == "__main__":
    unittest.main()
