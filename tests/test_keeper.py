"""Keepers: against ones kept by hand from the definitions, each error and its cause, and trials."""

import math
import random
import unittest

import oracle
from cases import FIELDS, Case, beyond, no_integers, no_rules
from freetakes.books import Book
from freetakes.errors import BadRule, FreeError, NotIn, TooMany
from freetakes.keeper import Keeper
from freetakes.needless import needless
from freetakes.rules import Down, Fixed, Rule
from test_piles import ENDLESS

HEAPS = 260
PAIR = Book(Fixed(1), Fixed(2))


class Wrong(Exception):
    """What a keeper kept by hand raises: the class and the fields of the error, and those of its cause."""


class Hand:
    """A keeper kept by hand: its rules, its limit and its log, and those that it had before."""

    def __init__(self, rules, limit):
        self.rules, self.limit, self.log, self.earlier = ordered(rules), limit, [], []
        self.told = oracle.worths(self.rules, HEAPS)

    def change(self, rules, limit, text):
        self.earlier.append((self.rules, self.limit))
        self.rules, self.limit = ordered(rules), limit
        self.log.append(text)

    def undo(self):
        if not self.earlier:
            raise Wrong("Nothing", ())
        self.rules, self.limit = self.earlier.pop()
        self.log.pop()

    def barred(self, rule):
        """The least heap at which the rule is barred, and the heap left, or None."""
        for n in range(HEAPS):
            if oracle.stands(rule, n) and self.told[n] == self.told[oracle.left(rule, n)]:
                return n, oracle.left(rule, n)
        return None

    def check_new(self, rule, most):
        if common([*self.rules, rule]) > 12:
            raise Wrong("TooMany", ("modulus", 12))
        if len(self.rules) + 1 > most:
            raise Wrong("TooMany", ("rules", most))
        if self.barred(rule):
            raise Wrong("NotFree", (rule,), "Meets", self.barred(rule))

    def check_needless(self, rules, rule):
        for n in range(HEAPS):
            worth = oracle.needed(rules, rule, n, self.told)
            if worth is not None:
                raise Wrong("Needed", (rule,), "Lacks", (n, worth))

    def add(self, rule):
        if not isinstance(rule, Rule):
            raise Wrong("BadRule", ("rule",))
        if rule in self.rules:
            return False
        self.check_new(rule, self.limit)
        self.change([*self.rules, rule], self.limit, f"add {rule}")
        return True

    def drop(self, rule):
        if rule not in self.rules:
            raise Wrong("NotIn", (rule,))
        self.check_needless(self.rules, rule)
        self.change(without(self.rules, rule), self.limit, f"drop {rule}")

    def exchange(self, old, new):
        if old not in self.rules:
            raise Wrong("NotIn", (old,))
        if not isinstance(new, Rule):
            raise Wrong("BadRule", ("rule",))
        if new == old:
            return
        both = self.rules
        if new not in both:
            self.check_new(new, 400)
            both = [*both, new]
        self.check_needless(both, old)
        self.change(without(both, old), self.limit, f"exchange {old} / {new}")

    def thin(self):
        left = self.rules
        for rule in self.rules[::-1]:
            if all(oracle.needed(left, rule, n, self.told) is None for n in range(HEAPS)):
                left = without(left, rule)
        gone = tuple(rule for rule in self.rules if rule not in left)
        if gone:
            self.change(left, self.limit, f"thin {len(gone)}")
        return gone

    def fill(self, most, rest=0, modulus=1):
        if not is_from_to(most, 1, 400):
            raise Wrong("BadNumber", (most,))
        if not is_from_to(modulus, 1, 6):
            raise Wrong("BadRule", ("modulus",))
        if not is_from_to(rest, 0, modulus - 1):
            raise Wrong("BadRule", ("rest",))
        if math.lcm(common(self.rules), modulus) > 12:
            raise Wrong("TooMany", ("modulus", 12))
        rules = [Fixed(size, rest, modulus) for size in range(1, most + 1)]
        new = [rule for rule in rules if rule not in self.rules and not self.barred(rule)]
        if len(self.rules) + len(new) > self.limit:
            raise Wrong("TooMany", ("rules", self.limit))
        if new:
            self.change([*self.rules, *new], self.limit, f"fill {len(new)}")
        return tuple(new)

    def set_limit(self, value):
        if not is_from_to(value, len(self.rules), 400):
            raise Wrong("BadLimit", (value,))
        if value != self.limit:
            self.change(self.rules, value, f"limit {value}")


def is_from_to(value, least, most):
    return type(value) is int and least <= value <= most


def common(rules):
    return math.lcm(*[rule.modulus for rule in rules])


def ordered(rules):
    return sorted(rules, key=oracle.place)


def without(rules, rule):
    return [one for one in rules if one != rule]


def done(thing, name, args):
    """What a method of a keeper, or of one kept by hand, does: its value, or what it raises."""
    try:
        return "value", getattr(thing, name)(*args)
    except Wrong as wrong:
        return "error", *wrong.args
    except FreeError as error:
        kind, cause = type(error).__name__, error.__cause__
        told = kind, tuple(getattr(error, field) for field in FIELDS[kind])
        if cause is None:
            return "error", *told
        name = type(cause).__name__
        return "error", *told, name, tuple(getattr(cause, field) for field in FIELDS[name])


def random_deed(rng, hand):
    """The name and the arguments of a call, of which about a third are wrong."""
    mine = lambda: rng.choice(hand.rules) if hand.rules else Fixed(1)
    any_rule = lambda: rng.choice([*oracle.random_rules(rng, 1), Fixed(rng.randint(1, 30), 0, 1), mine(), None, "fixed 1"])
    free_rule = lambda: rng.choice([rule for rule in oracle.random_rules(rng, 30, 12) if not hand.barred(rule)] or [mine()])
    name = rng.choice(["add", "add", "add", "drop", "drop", "exchange", "exchange", "thin", "fill", "set_limit", "undo", "undo"])
    if name == "add":
        return name, (rng.choice([any_rule, free_rule, free_rule])(),)
    if name == "drop":
        return name, (rng.choice([mine, mine, any_rule])(),)
    if name == "exchange":
        return name, (rng.choice([mine, mine, any_rule])(), rng.choice([free_rule, free_rule, mine, any_rule])())
    if name == "fill":
        modulus = rng.choice([1, 1, 2, 3, 4, 5, 6, 7, None])
        return name, (rng.choice([1, 3, 8, 12, 0, 401, True]), rng.choice([0, 0, 1, 2, 9]), modulus)
    if name == "set_limit":
        return name, (rng.choice([len(hand.rules), len(hand.rules) - 1, len(hand.rules) + 2, 400, 401, True, None, hand.limit]),)
    return name, ()


def draw(rng):
    """A keeper and one kept by hand of the same drawn book, whose worths come again soon."""
    while True:
        rules = Book.of(oracle.random_rules(rng, rng.randint(0, 5), 6, 6)).rules
        rows = oracle.table(rules)
        if sum(rows[:2]) <= 40:
            limit = rng.choice([len(rules), len(rules) + 1, len(rules) + 3, 40])
            return Keeper(Book(*rules), limit=limit), Hand(rules, limit)


class TestKeeper(Case):
    def same(self, keeper, hand):
        self.assertEqual(keeper.now.rules, tuple(hand.rules))
        self.exactly([keeper.log, keeper.limit, len(keeper)], [tuple(hand.log), hand.limit, len(hand.rules)])

    def both(self, keeper, hand, name, args):
        wanted = done(hand, name, args)
        found = done(keeper, name, args)
        self.assertEqual(found, wanted, (name, args, [str(rule) for rule in hand.rules]))
        self.exactly(found[1], wanted[1])
        return wanted

    def test_against_one_kept_by_hand(self):
        rng = random.Random(1)
        kinds = {}
        for _ in range(120):
            keeper, hand = draw(rng)
            table = keeper.table
            for _ in range(14):
                name, args = random_deed(rng, hand)
                wanted = self.both(keeper, hand, name, args)
                kind = (name, wanted[1] if wanted[0] == "error" else "done")
                kinds[kind] = kinds.get(kind, 0) + 1
                self.same(keeper, hand)
            self.assertIs(keeper.table, table)
            self.assertEqual(keeper.now.as_table(), table)
            while hand.earlier:
                self.both(keeper, hand, "undo", ())
                self.same(keeper, hand)
            self.both(keeper, hand, "undo", ())
        for kind in (("add", "done"), ("add", "NotFree"), ("add", "TooMany"), ("add", "BadRule"), ("drop", "done"), ("drop", "Needed"),
                     ("drop", "NotIn"), ("exchange", "done"), ("exchange", "NotIn"), ("exchange", "BadRule"), ("exchange", "NotFree"),
                     ("exchange", "Needed"), ("exchange", "TooMany"), ("fill", "done"), ("fill", "TooMany"), ("fill", "BadRule"),
                     ("fill", "BadNumber"), ("set_limit", "done"), ("set_limit", "BadLimit"), ("undo", "done"), ("undo", "Nothing")):
            self.assertGreater(kinds.get(kind, 0), 3, (kind, kinds))

    def test_trials_against_ones_kept_by_hand(self):
        rng = random.Random(2)
        for _ in range(40):
            keeper, hand = draw(rng)
            for _ in range(6):
                self.both(keeper, hand, *random_deed(rng, hand))
                self.try_out(rng, keeper, hand, 2)
                self.same(keeper, hand)
            while hand.earlier:
                self.both(keeper, hand, "undo", ())
                self.same(keeper, hand)

    def try_out(self, rng, keeper, hand, deep):
        """A trial of drawn deeds, with trials in it, that may end in an error."""
        error = rng.choice([None, KeyError("k"), TooMany("x", 1), NotIn(None)])

        def deed(held):
            self.assertIs(held, keeper)
            for _ in range(3):
                done(held, *random_deed(rng, hand))
                if deep:
                    before = done(held, "set_limit", ("x",)), held.now, held.limit, held.log
                    self.try_out(rng, held, hand, deep - 1)
                    self.assertEqual((held.now, held.limit, held.log), before[1:])
            if error is not None:
                raise error
            return "done"
        if error is None:
            self.assertEqual(keeper.tried(deed), "done")
        else:
            with self.assertRaises(type(error)) as caught:
                keeper.tried(deed)
            self.assertIs(caught.exception, error)

    def test_making(self):
        keeper = Keeper(PAIR)
        self.exactly([keeper.limit, len(keeper), keeper.log], [40, 2, ()])
        self.assertIs(keeper.now, PAIR)
        self.assertEqual(keeper.table, PAIR.as_table())
        for book in [*no_integers(), 0, [Fixed(1)]]:
            if not isinstance(book, Book):
                self.raised("BadBook", (0,), Keeper, book)
                self.raised("BadBook", (0,), Keeper, book, limit=None)
        for limit in beyond(2, 400):
            self.raised("BadLimit", (limit,), Keeper, PAIR, limit=limit)
        for limit in (2, 3, 399, 400):
            self.exactly(Keeper(book=PAIR, limit=limit).limit, limit)
        self.raised("BadLimit", (40,), Keeper, Book.plain(41))
        self.assertEqual(len(Keeper(Book.plain(40))), 40)
        self.raised("BadLimit", (399,), Keeper, Book.plain(400), limit=399)
        self.raised("TooMany", ("heaps", 1000), Keeper, ENDLESS)
        self.raised("BadLimit", (3,), Keeper, ENDLESS, limit=3)
        with self.assertRaises(TypeError):
            Keeper(PAIR, 40)

    def test_add(self):
        keeper = Keeper(PAIR, limit=3)
        for thing in no_rules():
            self.raised("BadRule", ("rule",), keeper.add, thing)
            self.assertFalse(thing in keeper)
        self.raised_from("NotFree", (Fixed(3),), "Meets", (3, 0), keeper.add, Fixed(3))
        self.exactly(keeper.add(Fixed(1)), False)
        self.exactly(keeper.add(Fixed(4, 0, 4)), True)
        # What does not stand is looked at in this order: the modulus, the limit, whether it is free.
        self.raised("TooMany", ("modulus", 12), keeper.add, Fixed(3, 0, 5))
        self.raised("TooMany", ("rules", 3), keeper.add, Fixed(3))
        self.exactly(keeper.add(Fixed(4, 0, 4)), False)
        keeper.limit = 4
        self.raised_from("NotFree", (Fixed(3),), "Meets", (3, 0), keeper.add, Fixed(3))
        self.exactly(keeper.add(Fixed(4)), True)
        self.exactly(keeper.log, ("add fixed 4 rest 0 of 4", "limit 4", "add fixed 4"))
        self.assertTrue(Fixed(4) in keeper and Fixed(5) not in keeper)

    def test_full_books(self):
        keeper = Keeper(Book.plain(400), limit=400)
        self.raised("TooMany", ("rules", 400), keeper.add, Fixed(400, leave=1))
        self.raised("TooMany", ("rules", 400), keeper.exchange, Fixed(7), Fixed(400, leave=1))
        self.raised_from("Needed", (Fixed(7),), "Lacks", (7, 0), keeper.exchange, Fixed(7), Fixed(8))
        nearly = Keeper(Book.plain(399), limit=399)
        self.raised_from("Needed", (Fixed(7),), "Lacks", (7, 0), nearly.exchange, Fixed(7), Fixed(399, leave=1))
        self.assertIs(nearly.exchange(Fixed(7), Fixed(7)), None)
        self.raised("TooMany", ("rules", 399), nearly.add, Fixed(399, leave=1))
        self.assertEqual(nearly.log, ())

    def test_drop(self):
        keeper = Keeper(PAIR | Fixed(4))
        for thing in [*no_rules(), Fixed(3), Down(1), Fixed(4, 0, 2)]:
            self.raised("NotIn", (thing,), keeper.drop, thing)
        self.raised_from("Needed", (Fixed(1),), "Lacks", (1, 0), keeper.drop, Fixed(1))
        self.raised_from("Needed", (Fixed(2),), "Lacks", (2, 0), keeper.drop, Fixed(2))
        self.assertIs(keeper.drop(Fixed(4)), None)
        self.raised("NotIn", (Fixed(4),), keeper.drop, Fixed(4))
        self.assertEqual((keeper.now, keeper.log), (PAIR, ("drop fixed 4",)))
        self.assertIs(keeper.undo(), None)
        self.assertEqual(keeper.now, PAIR | Fixed(4))

    def test_exchange(self):
        keeper = Keeper(PAIR | Fixed(4), limit=3)
        for thing in no_rules():
            self.raised("NotIn", (thing,), keeper.exchange, thing, thing)
            self.raised("BadRule", ("rule",), keeper.exchange, Fixed(1), thing)
        self.raised("NotIn", (Fixed(9),), keeper.exchange, Fixed(9), Fixed(9))
        self.assertIs(keeper.exchange(Fixed(1), Fixed(1)), None)
        self.assertEqual(keeper.log, ())
        self.raised_from("NotFree", (Fixed(3),), "Meets", (3, 0), keeper.exchange, Fixed(1), Fixed(3))
        self.raised_from("Needed", (Fixed(1),), "Lacks", (1, 0), keeper.exchange, Fixed(1), Fixed(4))
        self.raised_from("Needed", (Fixed(1),), "Lacks", (1, 0), keeper.exchange, Fixed(1), Fixed(7))
        self.raised("TooMany", ("modulus", 12), Keeper(PAIR | Fixed(4, 0, 4)).exchange, Fixed(4, 0, 4), Fixed(3, 0, 5))
        # The limit lets one rule more stand for as long as it takes.
        self.assertIs(keeper.exchange(Fixed(4), Fixed(7)), None)
        self.assertIs(keeper.exchange(Fixed(7), Fixed(2)), None)
        self.assertEqual(keeper.now, PAIR)
        self.exactly(keeper.log, ("exchange fixed 4 / fixed 7", "exchange fixed 7 / fixed 2"))
        keeper.undo()
        keeper.undo()
        self.assertEqual((keeper.now, keeper.log), (PAIR | Fixed(4), ()))

    def test_exchange_looks_at_both_rules_together(self):
        halves = [Fixed(1, 1, 4), Fixed(1, 3, 4)]
        keeper = Keeper(Book(*halves), limit=2)
        self.raised("Needed", (halves[0],), keeper.drop, halves[0])
        self.assertIs(keeper.exchange(halves[0], Down(0, 1, 2)), None)
        self.assertIs(keeper.exchange(halves[1], Down(0, 1, 2)), None)
        self.assertEqual(keeper.now, Book(Down(0, 1, 2)))
        self.raised_from("Needed", (Down(0, 1, 2),), "Lacks", (3, 0), keeper.exchange, Down(0, 1, 2), halves[0])

    def test_thin_and_fill(self):
        keeper = Keeper(PAIR)
        self.exactly(keeper.thin(), ())
        self.exactly(keeper.fill(2), ())
        self.exactly(keeper.fill(3), ())
        self.assertEqual(keeper.log, ())
        self.assertEqual(keeper.fill(8), (Fixed(4), Fixed(5), Fixed(7), Fixed(8)))
        self.assertEqual(keeper.fill(8, 1, 3), tuple(Fixed(size, 1, 3) for size in (1, 2, 4, 5, 7, 8)))
        self.assertEqual(keeper.log, ("fill 4", "fill 6"))
        self.assertEqual(len(keeper.thin()), 10)
        self.assertEqual((keeper.now, keeper.log[2:]), (PAIR, ("thin 10",)))
        keeper.undo()
        self.assertEqual(len(keeper), 12)
        self.assertEqual(keeper.thin()[0], Fixed(1, 1, 3))

    def test_errors_of_fill(self):
        keeper = Keeper(PAIR, limit=3)
        for most in beyond(1, 400):
            self.raised("BadNumber", (most,), keeper.fill, most, 9, 9)
        for modulus in beyond(1, 6):
            self.raised("BadRule", ("modulus",), keeper.fill, 1, None, modulus)
        for modulus in range(1, 7):
            for rest in beyond(0, modulus - 1):
                self.raised("BadRule", ("rest",), keeper.fill, 400, rest, modulus)
        self.raised("TooMany", ("rules", 3), keeper.fill, 5)
        self.assertEqual(keeper.now, PAIR)
        self.exactly(keeper.fill(4), (Fixed(4),))
        self.exactly(keeper.fill(most=4, rest=0, modulus=1), ())
        self.raised("TooMany", ("rules", 3), keeper.fill, 1, 2, 3)
        four = Keeper(PAIR | Fixed(4, 0, 4), limit=3)
        # Sizes to 1 bring no new rule, the modulus stands in the way all the same.
        self.raised("TooMany", ("modulus", 12), four.fill, 1, 0, 5)
        self.raised("TooMany", ("modulus", 12), four.fill, 400, 4, 5)

    def test_fill_up_to_the_most(self):
        keeper = Keeper(Book.plain(1), limit=400)
        self.assertEqual(len(keeper.fill(400)), 199)
        self.assertEqual(len(keeper.fill(400, 1, 2)), 200)
        self.assertEqual((len(keeper), keeper.log), (400, ("fill 199", "fill 200")))
        self.raised("TooMany", ("rules", 400), keeper.fill, 1, 0, 2)
        self.assertEqual(keeper.fill(400, 1, 2), ())
        self.raised("TooMany", ("rules", 400), keeper.add, Fixed(1, 0, 2))

    def test_limit(self):
        keeper = Keeper(PAIR)
        for value in beyond(2, 400):
            self.raised("BadLimit", (value,), keeper.set_limit, value)
            self.raised("BadLimit", (value,), setattr, keeper, "limit", value)
        self.assertIs(keeper.set_limit(40), None)
        keeper.limit = 40
        self.assertEqual(keeper.log, ())
        keeper.limit = 2
        keeper.set_limit(400)
        self.assertEqual((keeper.limit, keeper.log), (400, ("limit 2", "limit 400")))
        keeper.undo()
        self.raised("TooMany", ("rules", 2), keeper.add, Fixed(4))
        keeper.undo()
        self.assertEqual((keeper.limit, keeper.log), (40, ()))
        for name in ("now", "log"):
            with self.assertRaises(AttributeError):
                setattr(keeper, name, None)

    def test_undo(self):
        keeper = Keeper(PAIR, limit=3)
        self.raised("Nothing", (), keeper.undo)
        keeper.add(Fixed(4))
        keeper.drop(Fixed(4))
        keeper.limit = 2
        # The rule goes in again when the limit is taken back, too.
        for many in (2, 2, 3, 2):
            self.assertEqual(len(keeper), many)
            if keeper.log:
                self.assertIs(keeper.undo(), None)
        self.raised("Nothing", (), keeper.undo)
        self.exactly([keeper.limit, keeper.log], [3, ()])

    def test_calls_that_change_nothing(self):
        keeper = Keeper(PAIR)
        for name, args in (("add", (Fixed(1),)), ("exchange", (Fixed(1), Fixed(1))), ("thin", ()), ("fill", (3,)), ("set_limit", (40,))):
            getattr(keeper, name)(*args)
        for name, args in (("add", (Fixed(3),)), ("drop", (Fixed(1),)), ("exchange", (Fixed(1), Fixed(3))), ("set_limit", (1,)), ("fill", (0,))):
            with self.assertRaises(FreeError):
                getattr(keeper, name)(*args)
        self.assertEqual(keeper.log, ())
        self.raised("Nothing", (), keeper.undo)

    def test_signs(self):
        keeper = held = Keeper(PAIR)
        keeper += Fixed(4)
        keeper += Fixed(4)
        keeper += Down(0, 1, 3)
        self.assertIs(keeper, held)
        keeper -= Fixed(4)
        self.assertIs(keeper, held)
        self.assertEqual(keeper.log, ("add fixed 4", "add down 0 rest 1 of 3", "drop fixed 4"))
        with self.assertRaises(BadRule):
            keeper += 4
        with self.assertRaises(NotIn):
            keeper -= 4
        with self.assertRaises(FreeError):
            keeper += Fixed(3)
        self.assertIs(keeper, held)
        self.assertEqual(len(keeper.log), 3)

    def test_the_book_that_was_passed_stays(self):
        book = Book(Fixed(1), Fixed(2))
        one, other = Keeper(book), Keeper(book)
        one.add(Fixed(4))
        self.assertEqual((len(book), len(other), len(one)), (2, 2, 3))

    def test_trials(self):
        keeper = Keeper(PAIR)
        keeper.add(Fixed(4))
        with keeper.trial() as held:
            self.assertIs(held, keeper)
            held.undo()
            held.fill(8)
            held.limit = 20
            self.assertEqual(held.log, ("fill 4", "limit 20"))
        self.assertEqual((keeper.log, keeper.limit, len(keeper)), (("add fixed 4",), 40, 3))
        keeper.undo()
        self.assertEqual(keeper.now, PAIR)
        self.raised("Nothing", (), keeper.undo)

    def test_trials_that_end_in_errors(self):
        keeper = Keeper(PAIR)
        for error in (ValueError("v"), TooMany("heaps", 3), KeyboardInterrupt()):
            with self.assertRaises(type(error)) as caught:
                with keeper.trial():
                    keeper.add(Fixed(4))
                    raise error
            self.assertIs(caught.exception, error)
            self.assertEqual(keeper.log, ())
        with self.assertRaises(FreeError):
            with keeper.trial() as held:
                held.add(Fixed(4))
                held.add(Fixed(3))
        for k in (4, 5):
            with keeper.trial():
                keeper.add(Fixed(k))
                continue
        self.assertEqual((keeper.log, keeper.now), ((), PAIR))

    def test_nested_trials(self):
        keeper = Keeper(PAIR)
        with keeper.trial():
            keeper.add(Fixed(4))
            with keeper.trial():
                keeper.undo()
                keeper.limit = 2
                with self.assertRaises(TooMany):
                    with keeper.trial():
                        keeper.undo()
                        keeper.fill(30, 0, 1)
                        keeper.fill(400, 0, 1)
                self.assertEqual(keeper.log, ("limit 2",))
            self.assertEqual(keeper.log, ("add fixed 4",))
        self.assertEqual(keeper.log, ())
        self.raised("Nothing", (), keeper.undo)

    def test_tried(self):
        keeper = Keeper(PAIR)
        self.assertEqual(keeper.tried(lambda held: (held.add(Fixed(4)), len(held))), (True, 3))
        self.assertEqual(keeper.tried(lambda held: held.tried(lambda inner: [inner.add(Fixed(5)), len(inner)]) + [len(held)]), [True, 3, 2])
        self.assertEqual(keeper.tried(lambda held: held.fill(5)), (Fixed(4), Fixed(5)))
        with self.assertRaises(ZeroDivisionError):
            keeper.tried(lambda held: [held.add(Fixed(4)), 1 // 0])
        self.assertEqual((keeper.log, len(keeper)), ((), 2))

    def test_what_it_keeps(self):
        rng = random.Random(5)
        for _ in range(25):
            keeper, hand = draw(rng)
            keeper.limit = 400
            keeper.fill(20)
            self.assertEqual(keeper.now.as_table(), keeper.table)
            keeper.thin()
            self.assertEqual(keeper.now.as_table(), keeper.table)
            self.assertEqual(needless(keeper.now), ())


if __name__ == "__main__":
    unittest.main()
