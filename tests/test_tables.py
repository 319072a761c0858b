import itertools
import random
import unittest

import oracle
from cases import BIG, Case, beyond, no_heaps, no_integers
from freetakes.books import Book
from freetakes.rules import Fixed
from freetakes.tables import Table


def random_rows(rng):
    """A begin, a period and numbers, mostly of no least form."""
    period = rng.randint(1, 4)
    again = [rng.randrange(3) for _ in range(period)]
    ahead = [rng.randrange(3) for _ in range(rng.randint(0, 4))]
    ahead = ahead + (again * 3)[:rng.randint(0, 3 * period)]
    shift = rng.randrange(period)
    again = (again[shift:] + again[:shift]) * rng.randint(1, 3)
    numbers = ahead + again
    numbers[0] = 0
    return len(ahead), len(again), numbers


def told(begin, period, numbers, n):
    return numbers[n] if n < begin else numbers[begin + (n - begin) % period]


class Making(Case):
    def check_least(self, begin, period, numbers):
        table = Table(begin, period, numbers)
        row = [told(begin, period, numbers, n) for n in range(80)]
        least_period = next(p for p in range(1, 40) if row[40 - p:80 - p] == row[40:])
        least_begin = next(b for b in range(40) if row[b:40] == row[b + least_period:40 + least_period])
        self.exactly([table.begin, table.period], [least_begin, least_period])
        self.exactly(table.numbers, tuple(row[:least_begin + least_period]))
        self.exactly([table[n] for n in range(80)], row)

    def test_least_form(self):
        rng = random.Random(1)
        for _ in range(1500):
            begin, period, numbers = random_rows(rng)
            self.check_least(begin, period, numbers if rng.random() < 0.5 else tuple(numbers))

    def test_least_form_of_all_short_rows(self):
        for many in range(1, 8):
            for rest in itertools.product(range(2), repeat=many - 1):
                for begin in range(many):
                    self.check_least(begin, many - begin, [0, *rest])

    def test_named_rows(self):
        for rows, wanted in [((3, 4, [0, 0, 0, 1, 0, 1, 0]), (2, 2, (0, 0, 0, 1))), ((0, 1, [0]), (0, 1, (0,))),
                             ((1, 1, [0, 0]), (0, 1, (0,))), ((1, 1, [0, 1]), (1, 1, (0, 1))), ((2, 2, [0, 1, 1, 1]), (1, 1, (0, 1))),
                             ((1, 2, [0, 1, 0]), (0, 2, (0, 1))), ((0, 6, [0, 1, 0, 1, 0, 1]), (0, 2, (0, 1))),
                             ((0, 4, [0, 1, 1, 0]), (0, 4, (0, 1, 1, 0))), ((1, 6, (0, 1, 0, 2, 1, 0, 2)), (1, 3, (0, 1, 0, 2)))]:
            table = Table(*rows)
            self.exactly((table.begin, table.period, table.numbers), wanted)

    def test_long_rows(self):
        self.exactly(Table.MOST, 1000)
        table = Table(1000, 1000, [0] * 2000)
        self.exactly((table.begin, table.period, table.numbers), (0, 1, (0,)))
        table = Table(1000, 1000, [0] * 999 + [1] + [0] * 999 + [400])
        self.exactly((table.begin, table.period, len(table.numbers), table.highest), (1000, 1000, 2000, 400))
        table = Table(1000, 1000, [0] * 999 + [1] + [0] * 999 + [1])
        self.exactly((table.begin, table.period, len(table.numbers)), (0, 1000, 1000))
        self.exactly([table[BIG - 1], table[BIG - 2]], [1, 0])

    def test_each_wrong_part(self):
        for wrong in beyond(0, 1000):
            self.raised("BadTable", ["begin"], Table, wrong, 1, [0, 0])
        for wrong in beyond(1, 1000):
            self.raised("BadTable", ["period"], Table, 0, wrong, [0])
        for wrong in [*no_integers(), 0, 5, -1, "00", {0: 0, 1: 0}, Table(0, 2, [0, 1])]:
            if wrong not in ([0], (1, 2)):
                self.raised("BadTable", ["numbers"], Table, 0, 2, wrong)
        for numbers in ([], [0], [0, 0], [0, 0, 0, 0], [0] * 5):
            self.raised("BadTable", ["numbers"], Table, 1, 2, numbers)
            self.raised("BadTable", ["numbers"], Table, 1, 2, tuple(numbers))

    def test_each_wrong_number(self):
        for wrong in beyond(0, 400):
            for at in range(1, 4):
                numbers = [0, 1, 400, 0]
                numbers[at] = wrong
                self.raised("BadTable", ["numbers"], Table, 1, 3, numbers)
        for wrong in [*no_integers(), -1, 1, 2, 400]:
            self.raised("BadTable", ["numbers"], Table, 0, 2, [wrong, 0])
            self.raised("BadTable", ["numbers"], Table, 1, 1, (wrong, 0))

    def test_order_of_errors(self):
        for begin, period, numbers, part in [(True, 0, [1], "begin"), (-1, 1001, None, "begin"), (1001, 1, [0] * 1002, "begin"),
                                             (0, 0, [], "period"), (1000, 1001, 5, "period"), (2, "2", [1, 0, 0, 0], "period"),
                                             (2, 2, [1, 0, 0, 0], "numbers")]:
            self.raised("BadTable", [part], Table, begin, period, numbers)
            self.raised("BadTable", [part], Table, numbers=numbers, period=period, begin=begin)

    def test_later_changes_of_the_list(self):
        numbers = [0, 1, 2]
        table = Table(0, 3, numbers)
        numbers[1] = 7
        numbers.append(9)
        self.exactly([table.numbers, table[1], str(table)], [(0, 1, 2), 1, "| 0 1 2"])

    def test_methods_stand_in_the_class(self):
        for name in ("heaps_of", "read", "highest", "__getitem__", "__call__", "__eq__", "__str__"):
            self.assertIn(name, vars(Table))


class Asking(Case):
    def test_the_worth_of_a_heap(self):
        rng = random.Random(2)
        for _ in range(200):
            begin, period, numbers = random_rows(rng)
            table = Table(begin, period, numbers)
            for n in [*range(30), *range(BIG - 12, BIG + 1)]:
                self.exactly([table[n], table(n)], [told(begin, period, numbers, n)] * 2)
        self.exactly(table(n=0), 0)

    def test_no_heaps(self):
        for table in (Table(0, 1, [0]), Table(3, 4, [0, 0, 0, 1, 0, 1, 0])):
            for wrong in [*no_heaps(), slice(0, 1)]:
                self.raised("BadSize", [wrong], table.__getitem__, wrong)
                self.raised("BadSize", [wrong], lambda: table[wrong])
                self.raised("BadSize", [wrong], table, wrong)

    def test_highest(self):
        rng = random.Random(3)
        for _ in range(200):
            begin, period, numbers = random_rows(rng)
            self.exactly(Table(begin, period, numbers).highest, max(numbers))
        self.exactly([Table(0, 1, [0]).highest, Table(1, 1, [0, 400]).highest, Table(2, 1, [0, 9, 1]).highest], [0, 400, 9])

    def test_equality(self):
        rng = random.Random(4)
        rows = [random_rows(rng) for _ in range(60)]
        for one in rows:
            for other in rows:
                wanted = [told(*one, n) for n in range(80)] == [told(*other, n) for n in range(80)]
                self.exactly([Table(*one) == Table(*other), Table(*one) != Table(*other)], [wanted, not wanted])
        table = Table(0, 2, [0, 1])
        for thing in [*no_integers(), [0, 1], (0, 1), "| 0 1", Book(Fixed(1)), (0, 2, (0, 1)), 0]:
            if not isinstance(thing, Table):
                self.assertFalse(table == thing or thing == table)
        # The same numbers, another begin; one number otherwise.
        for other in (Table(1, 1, [0, 1]), Table(0, 2, [0, 2]), Table(0, 3, [0, 1, 0])):
            self.assertFalse(table == other)

    def test_it_cannot_be_gone_through(self):
        with self.assertRaises(TypeError):
            iter(Table(0, 1, [0]))


class HeapsOf(Case):
    def test_near(self):
        rng = random.Random(5)
        for _ in range(300):
            begin, period, numbers = random_rows(rng)
            table = Table(begin, period, numbers)
            for worth in range(4):
                first = rng.randint(0, 25)
                wanted = [n for n in range(first, 60) if told(begin, period, numbers, n) == worth]
                got = []
                for heap in table.heaps_of(worth, first):
                    if heap >= 60:
                        break
                    got.append(heap)
                self.exactly(got, wanted)

    def test_far_and_to_the_end(self):
        rng = random.Random(6)
        for _ in range(200):
            begin, period, numbers = random_rows(rng)
            table = Table(begin, period, numbers)
            for worth in range(4):
                first = BIG - rng.randint(0, 15)
                wanted = [n for n in range(first, BIG + 1) if told(begin, period, numbers, n) == worth]
                self.exactly(list(table.heaps_of(worth, first)), wanted)
                self.exactly(list(table.heaps_of(first=first, worth=worth)), wanted)

    def test_it_begins_far_off_at_once(self):
        table = Table(1000, 1000, [0] * 1999 + [1])
        walk = table.heaps_of(1, 10 ** 29 + 1)
        self.exactly([next(walk), next(walk)], [10 ** 29 + 999, 10 ** 29 + 1999])
        self.exactly(list(table.heaps_of(1, BIG)), [])
        self.exactly(list(table.heaps_of(1, BIG - 1001)), [BIG - 1001, BIG - 1])

    def test_worths_that_do_not_come_again(self):
        table = Table(3, 1, [0, 2, 2, 1])
        self.exactly([list(table.heaps_of(0)), list(table.heaps_of(2)), list(table.heaps_of(2, 2)), list(table.heaps_of(2, 3)),
                      list(table.heaps_of(0, 1)), list(table.heaps_of(3)), list(table.heaps_of(400))],
                     [[0], [1, 2], [2], [], [], [], []])

    def test_two_walks(self):
        table = Table(2, 2, (0, 0, 0, 1))
        one, other = table.heaps_of(0), table.heaps_of(0, 1)
        self.exactly([next(one), next(other), next(other), next(one), next(one), next(other)], [0, 1, 2, 1, 2, 4])
        self.exactly([next(one), next(table.heaps_of(1))], [4, 3])

    def test_errors(self):
        table = Table(2, 2, (0, 0, 0, 1))

        def first_heap(*args):
            return next(table.heaps_of(*args))
        for wrong in beyond(0, 400):
            self.raised("BadNumber", [wrong], first_heap, wrong)
            self.raised("BadNumber", [wrong], first_heap, wrong, -1)
        for wrong in no_heaps():
            self.raised("BadSize", [wrong], first_heap, 0, wrong)
            self.raised("BadSize", [wrong], first_heap, 400, wrong)


if __name__ == "__main__":
    unittest.main()
