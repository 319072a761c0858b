import random
import unittest

import oracle
from cases import BIG, Case, beyond, no_heaps, no_integers
from freetakes.books import Book
from freetakes.rules import Down, Fixed, Rested, Rule, Sized


def some_rules():
    rules = [Fixed(1), Fixed(400), Fixed(400, 5, 6, 400), Fixed(1, 0, 2), Fixed(1, 1, 2), Fixed(7, 2, 3, 5),
             Fixed(1, leave=400), Fixed(3, 4, 5, 1), Down(0), Down(400), Down(400, 5, 6), Down(0, 1, 2), Down(7, 0, 4)]
    rng = random.Random(11)
    return rules + [oracle.random_rule(rng, [1, 2, 3, 4, 5, 6], 400, 400) for _ in range(60)]


class Making(Case):
    def test_classes(self):
        self.assertTrue(issubclass(Rested, Rule) and issubclass(Sized, Rule))
        self.assertFalse(issubclass(Rested, Sized) or issubclass(Sized, Rested))
        self.assertTrue(issubclass(Fixed, Sized) and issubclass(Fixed, Rested))
        self.assertTrue(issubclass(Down, Rested))
        self.assertFalse(issubclass(Down, Sized) or issubclass(Down, Fixed) or issubclass(Fixed, Down))
        self.exactly([Rule.MOST, Rule.MOST_MODULUS, Fixed.MOST, Down.MOST_MODULUS], [400, 6, 400, 6])

    def test_methods_stand_in_their_classes(self):
        self.assertIn("read", vars(Rule))
        for kind in (Rule, Fixed, Down):
            for name in ("stands_at", "left_at", "taken_at"):
                self.assertIn(name, vars(kind))
        for kind in (Fixed, Down):
            self.assertIn("__eq__", vars(kind))
            self.assertIn("__str__", vars(kind))
        self.assertIn("leaving", vars(Fixed))

    def test_attributes_of_a_fixed(self):
        rule = Fixed(4, 1, 3, 2)
        self.exactly([rule.size, rule.rest, rule.modulus, rule.leave, rule.start], [4, 1, 3, 2, 6])
        rule = Fixed(size=9)
        self.exactly([rule.size, rule.rest, rule.modulus, rule.leave, rule.start], [9, 0, 1, 0, 9])
        rule = Fixed(leave=400, modulus=6, rest=5, size=400)
        self.exactly([rule.size, rule.rest, rule.modulus, rule.leave, rule.start], [400, 5, 6, 400, 800])

    def test_attributes_of_a_down(self):
        rule = Down(4, 1, 3)
        self.exactly([rule.to, rule.rest, rule.modulus, rule.start], [4, 1, 3, 5])
        rule = Down(to=0)
        self.exactly([rule.to, rule.rest, rule.modulus, rule.start], [0, 0, 1, 1])
        rule = Down(modulus=6, rest=5, to=400)
        self.exactly([rule.to, rule.rest, rule.modulus, rule.start], [400, 5, 6, 401])

    def test_each_part_at_its_bounds(self):
        for size in (1, 2, 399, 400):
            self.assertEqual(Fixed(size).size, size)
        for leave in (0, 1, 399, 400):
            self.assertEqual(Fixed(1, leave=leave).leave, leave)
        for to in (0, 1, 399, 400):
            self.assertEqual(Down(to).to, to)
        for modulus in range(1, 7):
            for rest in range(modulus):
                self.assertEqual((Fixed(1, rest, modulus).rest, Down(1, rest, modulus).rest), (rest, rest))
                self.assertEqual((Fixed(1, rest, modulus).modulus, Down(1, rest, modulus).modulus), (modulus, modulus))

    def test_each_wrong_part(self):
        for wrong in beyond(1, 400):
            self.raised("BadRule", ["size"], Fixed, wrong)
        for wrong in beyond(0, 400):
            self.raised("BadRule", ["leave"], Fixed, 1, leave=wrong)
            self.raised("BadRule", ["to"], Down, wrong)
        for wrong in beyond(1, 6):
            self.raised("BadRule", ["modulus"], Fixed, 1, 0, wrong)
            self.raised("BadRule", ["modulus"], Down, 1, 0, wrong)
        for modulus in range(1, 7):
            for wrong in beyond(0, modulus - 1):
                self.raised("BadRule", ["rest"], Fixed, 1, wrong, modulus)
                self.raised("BadRule", ["rest"], Down, 1, wrong, modulus)

    def test_the_first_wrong_part_is_told(self):
        self.raised("BadRule", ["size"], Fixed, 0, 9, 3)
        order = ["size", "leave", "modulus", "rest"]
        right = {"size": 1, "leave": 0, "modulus": 2, "rest": 1}
        wrong = {"size": 401, "leave": -1, "modulus": 0, "rest": 6}
        for bits in range(1, 16):
            named = {name: (wrong if bits >> at & 1 else right)[name] for at, name in enumerate(order)}
            first = next(name for at, name in enumerate(order) if bits >> at & 1)
            self.raised("BadRule", [first], Fixed, **named)
        self.raised("BadRule", ["to"], Down, None, 7, 9)
        self.raised("BadRule", ["to"], Down, 401, 7, 2)
        self.raised("BadRule", ["modulus"], Down, 400, True, 7)
        self.raised("BadRule", ["modulus"], Fixed, 1, "0", "1")


class Heaps(Case):
    def test_around_the_start(self):
        for rule in some_rules():
            for n in [*range(0, 30), *range(rule.start - 8, rule.start + 20), *range(995, 1010), BIG - 6, BIG - 1, BIG]:
                if n < 0:
                    continue
                stands = oracle.stands(rule, n)
                self.exactly(rule.stands_at(n), stands)
                if stands:
                    self.exactly(rule.left_at(n), oracle.left(rule, n))
                    self.exactly(rule.taken_at(n), n - oracle.left(rule, n))
                else:
                    self.raised("NoTake", [n], rule.left_at, n)
                    self.raised("NoTake", [n], rule.taken_at, n)

    def test_the_start(self):
        for rule in some_rules():
            for n in range(rule.start):
                self.assertFalse(rule.stands_at(n))
            for n in range(rule.start, rule.start + 13):
                self.assertIs(rule.stands_at(n), n % rule.modulus == rule.rest)

    def test_far_heaps(self):
        self.exactly([Fixed(3).left_at(BIG), Fixed(3).taken_at(BIG), Down(7).left_at(BIG), Down(7).taken_at(BIG)],
                     [BIG - 3, 3, 7, BIG - 7])
        self.exactly([Fixed(3, 4, 6).stands_at(BIG), Fixed(3, 3, 6).stands_at(BIG)], [True, False])
        self.exactly([Fixed(3).left_at(n=5), Fixed(3).taken_at(n=5), Fixed(3).stands_at(n=5)], [2, 3, True])

    def test_no_heaps(self):
        for rule in (Fixed(1), Fixed(400, 5, 6, 400), Down(0), Down(400, 5, 6)):
            for wrong in no_heaps():
                self.raised("BadSize", [wrong], rule.stands_at, wrong)
                self.raised("BadSize", [wrong], rule.left_at, wrong)
                self.raised("BadSize", [wrong], rule.taken_at, wrong)
            self.raised("BadSize", [BIG + 1], rule.stands_at, BIG + 1)
            self.raised("BadSize", [-1], rule.left_at, -1)


class Leaving(Case):
    def test_leaving(self):
        rule = Fixed(4, 1, 3, 2)
        for leave in (0, 1, 2, 400):
            other = rule.leaving(leave)
            self.assertIs(type(other), Fixed)
            self.exactly([other.size, other.rest, other.modulus, other.leave, other.start], [4, 1, 3, leave, 4 + leave])
        self.exactly([rule.leave, rule.start], [2, 6])
        self.assertEqual(rule.leaving(leave=7), Fixed(4, 1, 3, 7))

    def test_wrong_leaves(self):
        for wrong in beyond(0, 400):
            self.raised("BadRule", ["leave"], Fixed(4, 1, 3, 2).leaving, wrong)


class Equality(Case):
    def test_equal_numbers(self):
        rules = some_rules()
        keys = [(type(rule), getattr(rule, "size", None), getattr(rule, "to", None), rule.rest, rule.modulus,
                 getattr(rule, "leave", None)) for rule in rules]
        for one, key in zip(rules, keys):
            for other, key_too in zip(rules, keys):
                self.exactly([one == other, one != other], [key == key_too, key != key_too])

    def test_one_number_otherwise(self):
        rule = Fixed(4, 1, 3, 2)
        self.assertEqual(rule, Fixed(4, 1, 3, 2))
        for other in (Fixed(5, 1, 3, 2), Fixed(4, 2, 3, 2), Fixed(4, 1, 4, 2), Fixed(4, 1, 3, 3)):
            self.assertFalse(rule == other)
        rule = Down(4, 1, 3)
        self.assertEqual(rule, Down(4, 1, 3))
        for other in (Down(5, 1, 3), Down(4, 2, 3), Down(4, 1, 4), Fixed(4, 1, 3)):
            self.assertFalse(rule == other or other == rule)
        self.assertFalse(Fixed(2) == Fixed(2, 0, 2))

    def test_nothing_else_is_equal(self):
        for rule in (Fixed(1), Down(0), Fixed(4, 1, 3, 2)):
            for other in [*no_integers(), 0, 1, str(rule), rule.rank, (1, 0, 1, 0), Book(rule)]:
                if not isinstance(other, Rule):
                    self.assertFalse(rule == other or other == rule)
                    self.assertTrue(rule != other)


class Order(Case):
    def test_order_of_rules(self):
        rules = [rule for rule in some_rules() if rule.modulus != 5]
        for seed in range(20):
            random.Random(seed).shuffle(rules)
            places = [oracle.place(rule) for rule in Book.of(rules).rules]
            self.assertEqual(places, sorted({oracle.place(rule) for rule in rules}))

    def test_each_place_counts(self):
        ascending = [Fixed(1, 0, 1, 400), Fixed(1, 0, 2, 0), Fixed(1, 0, 2, 3), Fixed(1, 1, 2, 0), Fixed(1, 0, 3, 0),
                     Fixed(2, 0, 1, 0), Fixed(400, 1, 2, 0), Down(0, 0, 1), Down(0, 0, 2), Down(0, 1, 2), Down(0, 0, 3),
                     Down(1), Down(400)]
        self.assertEqual(list(Book.of(ascending[::-1]).rules), ascending)


if __name__ == "__main__":
    unittest.main()
