import math
import random
import unittest

from cases import Case, beyond, no_integers
from freetakes.free import is_free
from freetakes.free_sizes import free_sizes, shows_sizes
from freetakes.rules import Fixed
from freetakes.sizes import Sizes
from freetakes.tables import Table
from test_look_tables import tables_of_books
from test_tables import random_rows

NO_TABLES = [*no_integers(), 0, 1, [0, 1], (0, 2, (0, 1)), "| 0 1"]


def is_free_take(row, size, rest, modulus, leave):
    """Whether a take is free by the first worths of a table, heap by heap."""
    return not any(row[n] == row[n - size] for n in range(size + leave, len(row)) if n % modulus == rest)


def asked(rng):
    modulus = rng.randint(1, 6)
    return rng.randrange(modulus), modulus, rng.choice([0, 0, 1, 2, rng.randint(0, 25)])


def tables(seed, count):
    rng = random.Random(seed)
    found = [Table(*random_rows(rng)) for _ in range(count)]
    return found + [Table(*rows) for _, rows in tables_of_books(seed, count // 2, 4, 5, 6) if sum(rows[:2]) < 25]


class FreeSizes(Case):
    def test_size_by_size(self):
        rng = random.Random(1)
        for table in tables(2, 250):
            rest, modulus, leave = asked(rng)
            turn = math.lcm(table.period, modulus)
            sizes = free_sizes(table, rest, modulus, leave)
            self.assertIs(type(sizes), Sizes)
            far = table.begin + 2 * turn + 3
            row = [table[n] for n in range(far + max(leave, table.begin) + turn)]
            self.exactly([size in sizes for size in range(1, far)],
                         [is_free_take(row, size, rest, modulus, leave) for size in range(1, far)])
            self.assertLessEqual(len(sizes.ahead), max(0, table.begin - 1))
            self.assertEqual(turn % len(sizes.again), 0)
            self.assertEqual(free_sizes(leave=leave, modulus=modulus, table=table, rest=rest), sizes)
            self.exactly(shows_sizes(table, rest, modulus, leave, sizes), True)

    def test_they_are_the_free_rules(self):
        rng = random.Random(3)
        for table in tables(4, 8):
            rest, modulus, leave = asked(rng)
            sizes = free_sizes(table, rest, modulus, leave)
            self.exactly([size in sizes for size in range(1, 401)],
                         [is_free(table, Fixed(size, rest, modulus, leave)) for size in range(1, 401)])

    def test_what_may_be_left_out(self):
        table = Table(2, 2, (0, 0, 0, 1))
        self.assertEqual(free_sizes(table), free_sizes(table, 0, 1, 0))
        self.assertEqual(free_sizes(table, 1, 2), free_sizes(table, 1, 2, 0))
        self.assertNotEqual(free_sizes(table, 1, 2), free_sizes(table, 0, 2))
        self.exactly([str(free_sizes(table, leave=leave)) for leave in (0, 1, 2, 3, 400)], ["(0)", "(0)", "(10)", "(10)", "(10)"])
        self.exactly([str(free_sizes(Table(0, 1, [0]))), str(free_sizes(Table(1, 1, [0, 1]))), str(free_sizes(Table(3, 1, [0, 1, 2, 3])))],
                     ["(0)", "(0)", "(0)"])

    def test_a_long_way_ahead(self):
        table = Table(399, 1, [0] + [5] * 398 + [7])
        row = [table[n] for n in range(2000)]
        for leave in (0, 1, 398, 399, 400):
            sizes = free_sizes(table, leave=leave)
            self.exactly([size in sizes for size in range(1, 1000)], [is_free_take(row, size, 0, 1, leave) for size in range(1, 1000)])

    def test_how_many_heaps(self):
        for begin, period, rest, modulus in [(399, 1, 0, 1), (0, 400, 0, 1), (200, 200, 0, 1), (0, 400, 1, 5), (320, 80, 0, 5), (394, 1, 5, 6),
                                             (340, 60, 0, 6), (398, 2, 1, 2), (100, 100, 2, 3), (1, 133, 2, 3)]:
            numbers = [0] * begin + list(range(1, period + 1)) if begin else list(range(period))
            table = Table(begin, period, numbers)
            self.exactly([table.begin, table.period, begin + math.lcm(period, modulus)], [begin, period, 400])
            sizes = free_sizes(table, rest, modulus, 3)
            row = [table[n] for n in range(1700)]
            for size in (1, 2, 5, 100, 398, 399, 400, 401, 450, 700):
                self.exactly(size in sizes, is_free_take(row, size, rest, modulus, 3))
            longer = Table(begin + 1, period, [0] * (begin + 1) + list(range(1, period + 1)))
            self.exactly([longer.begin, longer.period], [begin + 1, period])
            self.raised("TooMany", ["heaps", 400], free_sizes, longer, rest, modulus)
            self.raised("TooMany", ["heaps", 400], shows_sizes, longer, rest, modulus, 400, None)

    def test_no_tables(self):
        for wrong in NO_TABLES:
            if isinstance(wrong, Table):
                continue
            self.raised("BadTable", ["table"], free_sizes, wrong)
            self.raised("BadTable", ["table"], free_sizes, wrong, None, 0, -1)
            self.raised("BadTable", ["table"], shows_sizes, wrong, 0, 1, 0, Sizes.every())
            self.raised("BadTable", ["table"], shows_sizes, wrong, 9, 9, 999, None)

    def test_wrong_parts(self):
        for table in (Table(0, 2, [0, 1]), Table(1000, 1000, [0] * 1999 + [1])):
            for call, more in ((free_sizes, []), (shows_sizes, [None])):
                for wrong in beyond(0, 400):
                    self.raised("BadRule", ["leave"], call, table, 0, 1, wrong, *more)
                    self.raised("BadRule", ["leave"], call, table, -1, None, wrong, *more)
                for wrong in beyond(1, 6):
                    self.raised("BadRule", ["modulus"], call, table, 0, wrong, 400, *more)
                    self.raised("BadRule", ["modulus"], call, table, None, wrong, 0, *more)
                for modulus in range(1, 7):
                    for wrong in beyond(0, modulus - 1):
                        self.raised("BadRule", ["rest"], call, table, wrong, modulus, 0, *more)
        self.raised("TooMany", ["heaps", 400], free_sizes, Table(1000, 1000, [0] * 1999 + [1]), 0, 1, 0)


class ShowsSizes(Case):
    def test_other_sets(self):
        rng = random.Random(5)
        for table in tables(6, 60):
            rest, modulus, leave = asked(rng)
            right = free_sizes(table, rest, modulus, leave)
            for thing in (right, ~right, right ^ Sizes((True,), (False,)), right ^ Sizes([False] * 9 + [True], [False]), right | Sizes.every(),
                          Sizes(right.ahead + right.again, right.again * 3), free_sizes(table), Sizes.none()):
                self.exactly(shows_sizes(table, rest, modulus, leave, thing), thing == right)

    def test_any_other_value(self):
        table = Table(2, 2, (0, 0, 0, 1))
        for thing in [*no_integers(), 0, 1, "0(01)", "(0)", ((False,), (False, True)), table]:
            for rest, modulus, wanted in ((0, 1, Sizes.none()), (1, 2, Sizes((False,), (False, True)))):
                self.exactly(shows_sizes(table, rest, modulus, 0, thing), isinstance(thing, Sizes) and thing == wanted)
        self.exactly(shows_sizes(thing=Sizes.none(), leave=0, modulus=1, rest=0, table=table), True)
        with self.assertRaises(TypeError):
            shows_sizes(table, 0, 1, Sizes.none())


if __name__ == "__main__":
    unittest.main()
