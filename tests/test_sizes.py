import itertools
import random
import unittest

from cases import BIG, Case, beyond, no_integers
from freetakes.sizes import Sizes

SEEN = 60


def inside(ahead, again, size):
    """Whether a size is in the set of these two rows, by the definition."""
    if size <= len(ahead):
        return ahead[size - 1]
    return again[(size - 1 - len(ahead)) % len(again)]


def random_rows(rng, most_ahead=6, most_again=5):
    """Two rows, mostly of no least form."""
    again = [rng.random() < 0.5 for _ in range(rng.randint(1, most_again))]
    ahead = [rng.random() < 0.5 for _ in range(rng.randint(0, most_ahead))] + (again * 3)[:rng.randint(0, 2 * len(again))]
    turned = rng.randrange(len(again))
    return ahead, (again[turned:] + again[:turned]) * rng.randint(1, 3)


def bools(ahead, again, count=SEEN):
    return [inside(ahead, again, size) for size in range(1, count + 1)]


def rows_of_bools(row):
    """Whether a value would be a right row."""
    return isinstance(row, (list, tuple)) and all(type(bit) is bool for bit in row)


class Making(Case):
    def check_least(self, ahead, again):
        sizes = Sizes(ahead, again)
        row = bools(ahead, again, 150)
        period = next(p for p in range(1, 50) if row[50 - p:150 - p] == row[50:])
        begin = next(b for b in range(51) if row[b:50] == row[b + period:50 + period])
        self.exactly([sizes.ahead, sizes.again], [tuple(row[:begin]), tuple(row[begin:begin + period])])
        self.exactly([size in sizes for size in range(1, 151)], row)

    def test_least_form(self):
        rng = random.Random(1)
        for _ in range(800):
            ahead, again = random_rows(rng)
            kind = rng.choice([list, tuple])
            self.check_least(kind(ahead), tuple(again) if rng.random() < 0.5 else again)

    def test_least_form_of_all_short_rows(self):
        for many in range(1, 8):
            for row in itertools.product([False, True], repeat=many):
                for begin in range(many):
                    self.check_least(row[:begin], list(row[begin:]))

    def test_rows_that_are_none(self):
        for wrong in [*no_integers(), 0, 1, "01", [True, 1], [0], (False, None), [True, [True]], {True: False}, range(0), iter([True])]:
            if not rows_of_bools(wrong):
                self.raised("BadSizes", ["ahead"], Sizes, wrong, [True])
                self.raised("BadSizes", ["ahead"], Sizes, wrong, ())
                self.raised("BadSizes", ["ahead"], Sizes, wrong, wrong)
                self.raised("BadSizes", ["again"], Sizes, [], wrong)
                self.raised("BadSizes", ["again"], Sizes, (True,) * 1001, again=wrong)
        for row in ([True, 1, False], [True] * 1500 + [0], (False, True, "1")):
            self.raised("BadSizes", ["ahead"], Sizes, row, [0])
            self.raised("BadSizes", ["again"], Sizes, [True], row)
        for empty in ((), []):
            self.raised("BadSizes", ["again"], Sizes, [True], empty)
            self.raised("BadSizes", ["again"], Sizes, [True] * 2000, empty)

    def test_how_many(self):
        self.exactly(Sizes.MOST, 1000)
        rng = random.Random(2)
        for ahead in (0, 1, 500, 998, 999):
            row = [rng.random() < 0.5 for _ in range(1000)]
            sizes = Sizes(row[:ahead], row[ahead:])
            self.exactly([size in sizes for size in range(1, 2001)], bools(row[:ahead], row[ahead:], 2000))
            for row in ([True] * 1001, [*row, False], (False,) * 2000):
                self.raised("TooMany", ["sizes", 1000], Sizes, row[:ahead], row[ahead:])
        self.raised("TooMany", ["sizes", 1000], Sizes, [True] * 1000, [True])
        self.exactly(str(Sizes([True] * 999, [True])), "(1)")

    def test_later_changes_of_the_lists(self):
        ahead, again = [True], [True, False]
        sizes = Sizes(ahead, again)
        ahead[0] = False
        again.append(True)
        self.exactly([str(sizes), sizes.ahead, sizes.again], ["1(10)", (True,), (True, False)])

    def test_named_sets(self):
        self.exactly([str(Sizes.every()), str(Sizes.none())], ["(1)", "(0)"])
        for m in (1, 2, 3, 7, 399, 400):
            sizes = Sizes.multiples(m)
            self.exactly(sizes.ahead, ())
            self.exactly([size in sizes for size in range(1, 1000)], [size % m == 0 for size in range(1, 1000)])
        self.assertEqual(Sizes.multiples(m=1), Sizes.every())
        for wrong in beyond(1, 400):
            self.raised("BadNumber", [wrong], Sizes.multiples, wrong)

    def test_methods_stand_in_the_class(self):
        for name in ("__contains__", "__bool__", "__and__", "__or__", "__sub__", "__xor__", "__invert__", "is_part_of", "first_from",
                     "walk", "count_to", "every", "none", "multiples", "__eq__", "__str__", "read"):
            self.assertIn(name, vars(Sizes))


class Asking(Case):
    def test_membership(self):
        rng = random.Random(3)
        for _ in range(200):
            ahead, again = random_rows(rng)
            sizes = Sizes(ahead, again)
            for size in [*range(1, 40), *range(BIG - 3, BIG + 20), 10 ** 39, 10 ** 39 + 1]:
                self.exactly(size in sizes, inside(ahead, again, size))
        for sizes in (Sizes.every(), Sizes((True,), (True, False)), Sizes((False, True), (True,))):
            for thing in [*no_integers(), 0, -1, -2, -10 ** 39, (1,), [1], "1"]:
                self.exactly(thing in sizes, False)

    def test_whether_it_has_a_size(self):
        rng = random.Random(4)
        for _ in range(300):
            ahead, again = random_rows(rng, 3, 2)
            self.exactly(bool(Sizes(ahead, again)), any(ahead + again))
        self.exactly([bool(Sizes([False] * 998 + [True], [False])), bool(Sizes([False] * 999, [False])),
                      bool(Sizes((), [False] * 999 + [True]))], [True, False, True])

    def test_first_from(self):
        rng = random.Random(5)
        for _ in range(300):
            ahead, again = random_rows(rng)
            sizes = Sizes(ahead, again)
            for least in (1, 2, rng.randint(1, 30), 10 ** 20 + 7, BIG - 1, BIG):
                wanted = next((size for size in range(least, least + 60) if inside(ahead, again, size)), None)
                self.exactly(sizes.first_from(least), wanted)
            self.exactly(sizes.first_from(), sizes.first_from(least=1))
        self.exactly([Sizes((), (False, False, True)).first_from(BIG), Sizes.multiples(400).first_from(BIG)], [BIG + 2, BIG])
        self.exactly([Sizes((True,), (False,)).first_from(1), Sizes((True,), (False,)).first_from(2)], [1, None])

    def test_walk(self):
        rng = random.Random(6)
        for _ in range(300):
            ahead, again = random_rows(rng)
            sizes = Sizes(ahead, again)
            for least in (1, rng.randint(1, 30), 10 ** 20 + 7, BIG):
                wanted = [size for size in range(least, least + SEEN) if inside(ahead, again, size)]
                got = list(itertools.islice(sizes.walk(least), len(wanted)))
                self.exactly(got, wanted)
            self.exactly(next(sizes.walk(), None), next(sizes.walk(least=1), None))

    def test_walks_that_end(self):
        few = Sizes((False, True, False, True, True), (False,))
        self.exactly([list(few.walk()), list(few.walk(3)), list(few.walk(5)), list(few.walk(6)), list(few.walk(BIG))],
                     [[2, 4, 5], [4, 5], [5], [], []])
        self.exactly([list(Sizes.none().walk()), list(Sizes([False] * 998 + [True], [False]).walk())], [[], [999]])

    def test_walks_left_early_and_begun_anew(self):
        odd = Sizes((), (True, False))
        one, other = odd.walk(), odd.walk(4)
        self.exactly([next(one), next(other), next(one), next(other), next(one)], [1, 5, 3, 7, 5])
        one.close()
        self.exactly([next(odd.walk()), next(other), next(odd.walk(BIG - 1))], [1, 9, BIG - 1])

    def test_beyond_the_biggest_heap(self):
        wide = Sizes([True] * 3, [False] * 6 + [True])
        walk = wide.walk(BIG)
        wanted = [size for size in range(BIG, BIG + 70) if (size - 4) % 7 == 6]
        self.exactly([next(walk) for _ in range(10)], wanted[:10])
        self.assertGreater(wanted[0], BIG)

    def test_count_to(self):
        rng = random.Random(7)
        for _ in range(200):
            ahead, again = random_rows(rng)
            sizes = Sizes(ahead, again)
            row = bools(ahead, again)
            for most in range(SEEN):
                self.exactly(sizes.count_to(most), sum(row[:most]))
            turn = sum(again)
            most = len(ahead) + 10 ** 20 * len(again) + 5
            self.exactly(sizes.count_to(most), 10 ** 20 * turn + sum(ahead) + sum((again * 6)[:5]))
        self.exactly([Sizes.every().count_to(BIG), Sizes.none().count_to(BIG), Sizes.multiples(3).count_to(most=BIG)],
                     [BIG, 0, BIG // 3])

    def test_wrong_numbers(self):
        for sizes in (Sizes.every(), Sizes.none(), Sizes((True,), (False,))):
            for wrong in beyond(1, BIG):
                self.raised("BadNumber", [wrong], sizes.first_from, wrong)
                self.raised("BadNumber", [wrong], lambda: next(sizes.walk(wrong)))
            for wrong in beyond(0, BIG):
                self.raised("BadNumber", [wrong], sizes.count_to, wrong)


if __name__ == "__main__":
    unittest.main()
