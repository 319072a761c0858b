import itertools
import random
import unittest

import oracle
from cases import BIG, Case, beyond, no_heaps, no_integers
from freetakes.books import Book
from freetakes.free import is_free
from freetakes.rules import Down, Fixed
from freetakes.tables import Table
from freetakes.winners import Kept, Turned, WinnersAnswer, keeps_winners, lost_heaps, shows_turned
from test_look_tables import tables_of_books
from test_tables import random_rows

FAR = 300
THIRD = Table(0, 3, (0, 1, 1))


def cases(seed, count):
    rng = random.Random(seed)
    for _ in range(count):
        yield Table(*random_rows(rng)), oracle.random_rule(rng, [1, 2, 3, 4, 5, 6], 12, 12)


def turned_heaps(table, rule, count=FAR):
    return [n for n in range(count) if oracle.stands(rule, n) and table[n] == 0 and table[oracle.left(rule, n)] == 0]


class KeepsWinners(Case):
    def test_heap_by_heap(self):
        seen = {True: 0, False: 0}
        for table, rule in cases(1, 1500):
            heaps = turned_heaps(table, rule)
            answer = keeps_winners(table, rule)
            self.exactly(bool(answer), not heaps)
            self.assertIs(type(answer), Turned if heaps else Kept)
            self.assertIs(answer.rule, rule)
            if heaps:
                self.exactly([answer.heap, answer.left], [heaps[0], oracle.left(rule, heaps[0])])
            seen[bool(answer)] += 1
        self.assertGreater(min(seen.values()), 100)

    def test_the_same_heaps_are_lost_by_all_plays(self):
        rng = random.Random(2)
        seen = {True: 0, False: 0, "not free": 0}
        for book, rows in tables_of_books(3, 80, 4, 6, 6):
            table = Table(*rows)
            before = oracle.wins(book.rules, FAR)
            self.assertEqual(before, [table[n] > 0 for n in range(FAR)])
            for _ in range(4):
                rule = oracle.random_rule(rng, [1, 2, 3, 6], 8, 8)
                answer = keeps_winners(table, rule)
                behind = oracle.wins([*book.rules, rule], FAR)
                seen[bool(answer)] += 1
                if answer:
                    self.assertEqual(before, behind)
                    seen["not free"] += not is_free(table, rule)
                else:
                    self.assertEqual(before[:answer.heap], behind[:answer.heap])
                    self.exactly([before[answer.heap], behind[answer.heap]], [False, True])
        self.assertGreater(min(seen.values()), 10)

    def test_turned_far_on(self):
        # 781 * 6 is the first heap of the right rest with the right worths.
        rows = oracle.table((Fixed(390), Fixed(391)))
        answer = keeps_winners(Table(*rows), Fixed(392, 0, 6))
        heaps = turned_heaps(Table(*rows), Fixed(392, 0, 6), 5000)
        self.exactly([answer.heap, answer.left, bool(answer)], [heaps[0], heaps[0] - 392, False])
        self.assertGreater(heaps[0], 4000)

    def test_named(self):
        answers = [keeps_winners(THIRD, rule) for rule in (Fixed(1, 2, 3), Down(0, 1, 3), Fixed(3), Fixed(3, 1, 3), Down(0), Down(1), Fixed(6, leave=4))]
        self.exactly([bool(answer) for answer in answers], [True, True, False, True, False, True, False])
        self.exactly([(answers[at].heap, answers[at].left) for at in (2, 4, 6)], [(3, 0), (3, 0), (12, 6)])
        self.exactly(bool(keeps_winners(rule=Fixed(3), table=THIRD)), False)

    def test_great_tables(self):
        rng = random.Random(4)
        for _ in range(6):
            begin, period = rng.choice([(1000, 1000), (0, 997), (700, 300)])
            table = Table(begin, period, [0] + [rng.randrange(0, 40) for _ in range(begin + period - 1)])
            rule = oracle.random_rule(rng, [1, 5, 6], 400, 400)
            heaps = turned_heaps(table, rule, begin + 800 + 6 * period)
            answer = keeps_winners(table, rule)
            self.exactly(bool(answer), not heaps)
            if heaps:
                self.exactly([answer.heap, answer.left], [heaps[0], oracle.left(rule, heaps[0])])


class Answers(Case):
    def test_made_of_any_values(self):
        values = [*no_integers(), 0, 5, -1, 10 ** 39]
        for at, value in enumerate(values):
            other, third = values[at - 1], values[at - 2]
            for kept in (Kept(value), Kept(rule=value)):
                self.assertIs(kept.rule, value)
            for turned in (Turned(value, other, third), Turned(left=third, heap=other, rule=value)):
                self.assertIs(turned.rule, value)
                self.assertIs(turned.heap, other)
                self.assertIs(turned.left, third)
            self.exactly([bool(Kept(value)), bool(Turned(value, value, value))], [True, False])

    def test_classes(self):
        self.assertEqual([Kept.__bases__, Turned.__bases__], [(WinnersAnswer,)] * 2)
        for kind in (Kept, Turned):
            for name in ("__init__", "__eq__", "__bool__"):
                self.assertIn(name, vars(kind))

    def test_equality(self):
        rows = list(itertools.product([Fixed(1), Fixed(2), None], [0, 1, True], [0, "0"]))
        answers = [Turned(*row) for row in rows] + [Kept(row[0]) for row in rows]
        for one in answers:
            for other in answers:
                same = (type(one), vars(one)) == (type(other), vars(other))
                self.exactly([one == other, one != other], [same, not same])
        for one in answers:
            for thing in [*no_integers(), 0, 1, one.rule]:
                if not isinstance(thing, Kept):
                    self.assertFalse(one == thing or thing == one)
        self.assertTrue(keeps_winners(THIRD, Fixed(3)) == Turned(Fixed(3), 3, 0))
        self.assertTrue(keeps_winners(THIRD, Fixed(2)) == Kept(Fixed(2)))


class ShowsTurned(Case):
    def test_heap_by_heap(self):
        for table, rule in cases(5, 80):
            for n in [*range(30), *range(BIG - 12, BIG + 1)]:
                left = oracle.left(rule, n) if oracle.stands(rule, n) else None
                for k in (0, 1, 2, n - rule.start, n - 1, n, left):
                    wanted = left is not None and k == left and table[n] == 0 and table[left] == 0
                    self.exactly(shows_turned(table, rule, n, k), wanted)

    def test_any_values(self):
        table = Table(0, 1, [0])
        self.exactly([shows_turned(table, Fixed(1), 1, 0), shows_turned(left=0, heap=1, rule=Fixed(1), table=table), shows_turned(table, Fixed(1), BIG, BIG - 1)],
                     [True, True, True])
        for wrong in [*no_heaps(), BIG + 1]:
            self.exactly([shows_turned(table, Fixed(1), wrong, 0), shows_turned(table, Fixed(1), 1, wrong), shows_turned(table, Fixed(1), wrong, wrong),
                          shows_turned(table, Down(0), wrong, 0)], [False] * 4)
        self.exactly([shows_turned(table, Fixed(1), True, 0), shows_turned(table, Fixed(1), 1, False), shows_turned(table, Fixed(1), 2, True)], [False] * 3)
        self.exactly([shows_turned(THIRD, Fixed(3), 9, 6), shows_turned(THIRD, Fixed(3), 9, 3), shows_turned(THIRD, Fixed(3), 10, 7)], [True, False, False])


class LostHeaps(Case):
    def test_near_and_far(self):
        rng = random.Random(6)
        for table, _ in cases(7, 150):
            first = rng.randint(0, 25)
            wanted = [n for n in range(first, 80) if table[n] == 0]
            self.exactly(list(itertools.islice(lost_heaps(table, first), len(wanted))), wanted)
            self.exactly(next(lost_heaps(table)), 0)
            first = BIG - rng.randint(0, 20)
            self.exactly(list(lost_heaps(first=first, table=table)), [n for n in range(first, BIG + 1) if table[n] == 0])

    def test_walks_that_end(self):
        table = Table(4, 1, [0, 1, 0, 0, 2])
        self.exactly([list(lost_heaps(table)), list(lost_heaps(table, 1)), list(lost_heaps(table, 3)), list(lost_heaps(table, 4)), list(lost_heaps(table, BIG))],
                     [[0, 2, 3], [2, 3], [3], [], []])
        rare = Table(0, 1000, [0] + [1] * 999)
        walk = lost_heaps(rare, 10 ** 29 + 1)
        self.exactly([next(walk), next(walk), list(lost_heaps(rare, BIG)), list(lost_heaps(rare, BIG - 999))],
                     [10 ** 29 + 1000, 10 ** 29 + 2000, [BIG], [BIG]])

    def test_left_early_and_begun_anew(self):
        one, other = lost_heaps(THIRD), lost_heaps(THIRD, 4)
        self.exactly([next(one), next(other), next(one), next(other), next(one)], [0, 6, 3, 9, 6])
        one.close()
        self.exactly([next(lost_heaps(THIRD)), next(other)], [0, 12])

    def test_errors(self):
        for table in (THIRD, Table(1, 1, [0, 1])):
            for wrong in beyond(0, BIG):
                self.raised("BadSize", [wrong], lambda: next(lost_heaps(table, wrong)))


if __name__ == "__main__":
    unittest.main()
