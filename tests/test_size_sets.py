"""Size sets with one another: their operators, equality and texts."""

import itertools
import random
import unittest

from cases import Case, no_integers
from freetakes.sizes import Sizes
from test_sizes import SEEN, bools, random_rows

SIGNS = {"&": lambda one, other: one and other, "|": lambda one, other: one or other,
         "-": lambda one, other: one and not other, "^": lambda one, other: one != other}


def joined(sign, one, other):
    return {"&": lambda: one & other, "|": lambda: one | other, "-": lambda: one - other, "^": lambda: one ^ other}[sign]()


def joined_in_place(sign, one, other):
    if sign == "&":
        one &= other
    elif sign == "|":
        one |= other
    elif sign == "-":
        one -= other
    else:
        one ^= other
    return one


def told(sizes, count=SEEN):
    return [size in sizes for size in range(1, count + 1)]


def wide(ahead, again):
    """A size set with rows of just these lengths in its least form."""
    # The last bools of both rows differ, so that none of ahead is left out.
    return Sizes(([False] * ahead + [again == 1])[-ahead:] if ahead else [], [False] * (again - 1) + [again > 1])


class Operators(Case):
    def test_size_by_size(self):
        rng = random.Random(1)
        for _ in range(400):
            rows, lines = random_rows(rng), random_rows(rng)
            one, other = Sizes(*rows), Sizes(*lines)
            before = str(one), str(other)
            for sign, choose in SIGNS.items():
                wanted = [choose(mine, yours) for mine, yours in zip(bools(*rows), bools(*lines))]
                for found in (joined(sign, one, other), joined_in_place(sign, one, other)):
                    self.assertIs(type(found), Sizes)
                    self.exactly(told(found), wanted)
                    self.assertEqual(found, Sizes(wanted, told(found, 2 * SEEN)[SEEN:]))
            self.exactly(told(~one), [not bit for bit in bools(*rows)])
            self.exactly([~~one == one, ~one == Sizes.every() - one, str(one), str(other)], [True, True, *before])
            self.exactly(one.is_part_of(other), not any(mine and not yours for mine, yours in zip(bools(*rows), bools(*lines))))
            self.exactly([(one & other).is_part_of(one), one.is_part_of(one | other), one.is_part_of(other=one)], [True] * 3)

    def test_in_place_the_old_one_stays(self):
        odd = Sizes((), (True, False))
        for sign in SIGNS:
            held = odd
            other = Sizes.multiples(3)
            held = joined_in_place(sign, held, other)
            self.assertIsNot(held, odd)
            self.exactly([str(odd), str(other)], ["(10)", "(001)"])

    def test_parts_of_one_another(self):
        self.exactly([Sizes.multiples(6).is_part_of(Sizes.multiples(3)), Sizes.multiples(3).is_part_of(Sizes.multiples(6)),
                      Sizes.none().is_part_of(Sizes.none()), Sizes.every().is_part_of(Sizes.every()), Sizes.none().is_part_of(Sizes.every()),
                      Sizes((True,), (False,)).is_part_of(Sizes.multiples(2)), Sizes((False, True), (False,)).is_part_of(Sizes.multiples(2))],
                     [True, False, True, True, True, False, True])

    def test_no_size_sets(self):
        for one in (Sizes.every(), Sizes.none(), Sizes([True] * 499, [False] * 500 + [True])):
            for wrong in [*no_integers(), 0, 1, (True,), [[], [True]], "(1)"]:
                if isinstance(wrong, Sizes):
                    continue
                for sign in SIGNS:
                    self.raised("BadSizes", ["other"], joined, sign, one, wrong)
                    self.raised("BadSizes", ["other"], joined_in_place, sign, one, wrong)
                self.raised("BadSizes", ["other"], one.is_part_of, wrong)

    def check_limit(self, one, other, fits):
        for mine, yours in ((one, other), (other, one)):
            for sign, choose in SIGNS.items():
                if fits:
                    wanted = [choose(own, its) for own, its in zip(told(mine, 2100), told(yours, 2100))]
                    self.exactly(told(joined(sign, mine, yours), 2100), wanted)
                else:
                    self.raised("TooMany", ["sizes", 1000], joined, sign, mine, yours)
                    self.raised("TooMany", ["sizes", 1000], joined_in_place, sign, mine, yours)
            if fits:
                self.exactly(mine.is_part_of(yours), not any(own and not its for own, its in zip(told(mine, 2100), told(yours, 2100))))
            else:
                self.raised("TooMany", ["sizes", 1000], mine.is_part_of, yours)

    def test_how_many(self):
        self.check_limit(wide(0, 31), wide(0, 32), True)
        self.check_limit(wide(8, 31), wide(7, 32), True)
        self.check_limit(wide(7, 32), wide(9, 31), False)
        self.check_limit(wide(0, 31), wide(0, 37), False)
        self.check_limit(wide(0, 25), wide(0, 40), True)
        self.check_limit(wide(800, 200), wide(400, 200), True)
        self.check_limit(wide(800, 200), wide(801, 100), False)
        self.check_limit(wide(998, 2), wide(500, 1), True)
        self.check_limit(wide(998, 2), wide(0, 3), False)
        self.check_limit(wide(0, 1000), wide(0, 500), True)
        self.check_limit(wide(0, 1000), wide(1, 500), False)
        self.check_limit(wide(0, 999), wide(1, 37), True)
        # The least form of what comes out may be short: the lengths of both decide all the same.
        self.check_limit(wide(0, 500), wide(501, 1), False)
        self.check_limit(wide(0, 500), wide(500, 1), True)
        self.check_limit(wide(0, 501), wide(0, 2), False)
        self.exactly(~~wide(500, 500) == wide(500, 500), True)

    def test_equality(self):
        rng = random.Random(2)
        rows = [random_rows(rng, 2, 3) for _ in range(60)]
        for one in rows:
            for other in rows:
                same = bools(*one) == bools(*other)
                self.exactly([Sizes(*one) == Sizes(*other), Sizes(*one) != Sizes(*other)], [same, not same])
        for sizes in (Sizes.every(), Sizes((True,), (True, False))):
            for thing in [*no_integers(), 1, str(sizes), (sizes.ahead, sizes.again), sizes.again]:
                if not isinstance(thing, Sizes):
                    self.assertFalse(sizes == thing or thing == sizes)
        # The same figures, parted elsewhere.
        self.assertFalse(Sizes((True,), (False, True, True)) == Sizes((), (True, False, True, True)))


class Texts(Case):
    def test_texts(self):
        rng = random.Random(3)
        for _ in range(300):
            sizes = Sizes(*random_rows(rng))
            ahead = "".join("01"[bit] for bit in sizes.ahead)
            again = "".join("01"[bit] for bit in sizes.again)
            self.exactly(str(sizes), f"{ahead}({again})")
            self.assertEqual(Sizes.read(str(sizes)), sizes)
        for ahead, again in ((0, 1000), (999, 1), (500, 500), (998, 2), (1, 999)):
            sizes = wide(ahead, again)
            self.exactly([len(sizes.ahead), len(sizes.again), len(str(sizes))], [ahead, again, 1002])
            self.assertEqual(Sizes.read(text=str(sizes)), sizes)

    def test_all_short_texts(self):
        right = {}
        for many in range(1, 6):
            for row in itertools.product([False, True], repeat=many):
                for begin in range(many):
                    sizes = Sizes(row[:begin], row[begin:])
                    right[str(sizes)] = sizes
        for many in range(0, 7):
            for signs in itertools.product("01()", repeat=many):
                text = "".join(signs)
                if text in right:
                    self.assertEqual(Sizes.read(text), right[text])
                else:
                    self.raised("BadText", [0, 0], Sizes.read, text)

    def test_other_values(self):
        for wrong in [*no_integers(), 0, 1, "(1", "1)", "()", "(2)", "0(01) ", " 0(01)", "0 (01)", "0(01)\n", "0(0 1)", "(1)(1)", "((1))",
                      "(1))", "0(01)0", "-(1)", "[10]", "(True)", "+(-)", "1(01)", "(1010)", "0(0)", "1(1)", "(11)", "00(0)", "0(10)"]:
            self.raised("BadText", [0, 0], Sizes.read, wrong)

    def test_more_than_a_thousand_figures(self):
        for ahead, again in ((1000, 1), (999, 2), (0, 1001), (501, 500), (1500, 1), (0, 3000)):
            text = "1" * ahead + f"({'0' * (again - 1)}{1 if again > 1 else 0})"
            self.raised("BadText", [0, 0], Sizes.read, text.replace("1(", "0(") if again > 1 else text)
            self.raised("BadText", [0, 0], Sizes.read, text)
        self.exactly(str(Sizes.read("1" * 999 + "(0)")), "1" * 999 + "(0)")
        self.exactly(str(Sizes.read("(" + "0" * 999 + "1)")), "(" + "0" * 999 + "1)")


if __name__ == "__main__":
    unittest.main()
