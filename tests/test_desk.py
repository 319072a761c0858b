"""Desks: against ones kept by hand from the definitions, wrong lines, refused ones, runs and taking back."""

import math
import random
import unittest

import oracle
import rule_words
from cases import BIG, Case, no_integers
from freetakes.desk import Desk
from freetakes.errors import NoLine
from freetakes.rules import Rule
from freetakes.sizes import Sizes
from test_piles import ENDLESS

HEAPS = 300
FIRST_WORDS = {"add": None, "drop": None, "free": None, "pile": 1, "plain": 1, "take": 2, "book": 0, "piles": 0, "worth": 1, "table": 0,
               "sizes": 2, "needless": 0, "least": 0, "wins": 0, "winning": 0, "back": 0}
WORDS = [*rule_words.OTHER_WORDS, *FIRST_WORDS, str(BIG), str(BIG + 1), "1 2", "8", "add fixed"]


class Refused(Exception):
    pass


def wrong_place(line):
    """The index of the first word of a line that cannot stand, or their number if one lacks; None if it is right."""
    words = line.split(" ")
    if words[0] not in FIRST_WORDS:
        return 0
    many = FIRST_WORDS[words[0]]
    if many is None:
        wrong = rule_words.first_wrong(words[1:]) if len(words) > 1 else 0
        return None if wrong is None else wrong + 1
    for at, word in enumerate(words[1:], 1):
        if at > many or not (word in ("0", str(BIG)) or word.isascii() and word.isdigit() and word[0] != "0" and len(word) <= 30):
            return at
    return len(words) if len(words) <= many else None


class Hand:
    """A desk kept by hand: its rules, and its piles with their sizes and rules (None of a plain one)."""

    def __init__(self):
        self.rules, self.piles, self.earlier = [], [], []

    def say(self, line):
        words = line.split(" ")
        numbers = [int(word) for word in words[1:] if word.isdigit()]
        before = (list(self.rules), list(self.piles))
        try:
            answer, changed = self.answer(words[0], line[len(words[0]) + 1:], numbers)
        except Refused as why:
            return f"refused {why}"
        if changed:
            self.earlier.append(before)
        return answer

    def answer(self, word, rest, numbers):
        if word in ("add", "drop"):
            return getattr(self, word)(Rule.read(rest))
        if word in ("pile", "plain"):
            return self.put(numbers[0], list(self.rules) if word == "pile" else None), True
        if word == "take":
            return self.take(*numbers), True
        if word == "back":
            return self.back(), False
        if word in ("worth", "sizes"):
            return getattr(self, word)(*numbers), False
        if word == "free":
            return self.free(Rule.read(rest)), False
        return getattr(self, word)(), False

    def add(self, rule):
        if rule in self.rules:
            return "known", False
        if math.lcm(*[one.modulus for one in [*self.rules, rule]]) > 12 or len(self.rules) == 400:
            raise Refused("TooMany")
        self.rules = sorted([*self.rules, rule], key=oracle.place)
        return "ok", True

    def drop(self, rule):
        if rule not in self.rules:
            return "unknown", False
        self.rules = [one for one in self.rules if one != rule]
        return "ok", True

    def put(self, size, rules):
        if len(self.piles) == 20:
            raise Refused("TooMany")
        self.piles.append((size, rules))
        return str(len(self.piles) - 1)

    def take(self, index, k):
        if index >= len(self.piles):
            raise Refused("NoPile")
        size, rules = self.piles[index]
        if k not in takes(size, rules):
            raise Refused("NoTake")
        self.piles[index] = (size - k, rules)
        return "ok"

    def back(self):
        if not self.earlier:
            return "nothing"
        self.rules, self.piles = self.earlier.pop()
        return "ok"

    def book(self):
        return ", ".join(map(str, self.rules)) or "-"

    def piles_(self):
        return " ".join(str(size) for size, _ in self.piles) or "-"

    def rows(self):
        rows = oracle.table(self.rules)
        if rows is None or rows[0] + rows[1] > 1000:
            raise Refused("TooMany")
        return rows

    def told(self):
        self.rows()
        return oracle.worths(self.rules, HEAPS)

    def worth(self, n):
        begin, period, numbers = self.rows()
        return str(numbers[n] if n < begin else numbers[begin + (n - begin) % period])

    def table(self):
        begin, period, numbers = self.rows()
        return " ".join(map(str, [begin, period, *numbers]))

    def free(self, rule):
        told = self.told()
        for n in range(HEAPS):
            if oracle.stands(rule, n) and told[n] == told[oracle.left(rule, n)]:
                return f"barred {n} {oracle.left(rule, n)}"
        return "free"

    def sizes(self, rest, modulus):
        if not 1 <= modulus <= 6 or rest >= modulus:
            raise Refused("BadRule")
        begin, period, numbers = self.rows()
        again = math.lcm(period, modulus)
        if begin + again > 400:
            raise Refused("TooMany")
        told = oracle.worths(self.rules, 2 * begin + 3 * again)
        row = [all(told[n] != told[n - t] for n in range(t, t + begin + again) if n % modulus == rest) for t in range(1, begin + again + 1)]
        return str(Sizes(row[:begin], row[begin:]))

    def needless(self):
        told = self.told()
        found = [rule for rule in self.rules if all(oracle.needed(self.rules, rule, n, told) is None for n in range(HEAPS))]
        return ", ".join(map(str, found)) or "-"

    def least(self):
        told = self.told()
        left = self.rules
        for rule in self.rules[::-1]:
            if all(oracle.needed(left, rule, n, told) is None for n in range(HEAPS)):
                left = [one for one in left if one != rule]
        return ", ".join(map(str, left)) or "-"

    def pile_worth(self, size, rules):
        if rules is None:
            return size
        hand = Hand()
        hand.rules = rules
        return int(hand.worth(size))

    def total(self):
        worth = 0
        for size, rules in self.piles:
            worth ^= self.pile_worth(size, rules)
        return worth

    def wins(self):
        return "yes" if self.total() else "no"

    def winning(self):
        total = self.total()
        found = []
        for at, (size, rules) in enumerate(self.piles):
            worth = total ^ self.pile_worth(size, rules)
            lefts = takes(size, rules) if rules is not None else [size - worth] if worth < size else []
            found += [f"{at} {k}" for k in lefts if self.pile_worth(size - k, rules) == worth]
        return " / ".join(found) if total and found else "-"


def takes(size, rules):
    if rules is None:
        return range(1, size + 1)
    return sorted({size - left for left in oracle.lefts(rules, size)})


def random_line(rng, hand):
    """A right line, a changed one now and then."""
    some = lambda: str(rng.choice(hand.rules)) if hand.rules else "fixed 1"
    drawn = lambda: str(oracle.random_rules(rng, 1, 5, 5)[0])
    size = lambda: str(rng.choice([0, 1, 2, 5, 9, 20, 40, BIG]))
    word = rng.choice(["add"] * 8 + ["drop"] * 3 + ["pile", "plain", "take"] * 3 + list(FIRST_WORDS))
    if FIRST_WORDS[word] is None:
        return f"{word} {rng.choice([some, drawn, drawn])()}"
    if word == "take" and hand.piles and rng.random() < 0.7:
        index = rng.randrange(len(hand.piles))
        found = list(takes(*hand.piles[index]))[:50] if hand.piles[index][0] < 1000 or hand.piles[index][1] is not None else [BIG - 30]
        return f"take {index} {rng.choice(found or [1])}"
    if word == "sizes":
        return f"sizes {rng.choice([0, 0, 1, 2, 7])} {rng.choice([1, 2, 3, 4, 0, 7])}"
    return " ".join([word, *[size() for _ in range(FIRST_WORDS[word])]])


def spoilt(rng, line):
    words = line.split(" ")
    at = rng.randrange(len(words))
    way = rng.randrange(4)
    if way == 0:
        words[at] = rng.choice(WORDS)
    elif way == 1:
        words.insert(rng.randrange(len(words) + 1), rng.choice(WORDS))
    elif way == 2:
        del words[at]
    else:
        words.append("")
    return " ".join(words)


class TestDesk(Case):
    def same(self, desk, hand):
        self.assertEqual([desk.say("book"), desk.say("piles")], [hand.book(), hand.piles_()])

    def test_against_one_kept_by_hand(self):
        rng = random.Random(1)
        seen = {}
        for _ in range(150):
            desk, hand = Desk(), Hand()
            for _ in range(25):
                line = random_line(rng, hand)
                wanted = say(hand, line)
                self.exactly(rng.choice([desk, desk.say, lambda words: desk.run(words)[0]])(line), wanted)
                kind = line.split(" ")[0], wanted if wanted.split(" ")[0] in ("refused", "known", "unknown", "nothing") else "done"
                seen[kind] = seen.get(kind, 0) + 1
            self.same(desk, hand)
            while True:
                wanted = hand.back()
                self.exactly(desk("back"), wanted)
                if wanted == "nothing":
                    break
                self.same(desk, hand)
            self.assertEqual(desk.run("book", "piles", "back"), ["-", "-", "nothing"])
        for word in FIRST_WORDS:
            self.assertGreater(seen.get((word, "done"), 0), 30, (word, seen))
        for kind in (("add", "known"), ("add", "refused TooMany"), ("drop", "unknown"), ("take", "refused NoPile"), ("take", "refused NoTake"),
                     ("sizes", "refused BadRule"), ("back", "nothing")):
            self.assertGreater(seen.get(kind, 0), 5, (kind, seen))

    def test_spoilt_lines(self):
        rng = random.Random(2)
        many = 0
        for _ in range(60):
            desk, hand = Desk(), Hand()
            for _ in range(60):
                line = random_line(rng, hand)
                for _ in range(rng.randint(0, 3)):
                    line = spoilt(rng, line)
                wrong = wrong_place(line)
                if wrong is None:
                    if not any(number.isdigit() and 1000 < int(number) < BIG for number in line.split(" ")):
                        self.exactly(desk(line), say(hand, line))
                    continue
                many += 1
                for call in (desk, desk.say, desk.run):
                    self.raised("NoLine", (wrong,), call, line)
            self.same(desk, hand)
        self.assertGreater(many, 1500)

    def test_wrong_lines(self):
        desk = Desk()
        for line, wrong in (("", 0), (" ", 0), ("add", 1), ("add ", 1), ("add fixed", 2), ("add fixed 0", 2), ("add fixed 1 ", 3), ("add fixed 401", 2),
                            ("add fixed 4 rest 2 of 2", 6), ("add down 0 leave 1", 3), ("add down", 2), ("Add fixed 1", 0), ("book ", 1),
                            ("book\n", 0), (" book", 0), ("piles 1", 1), ("pile", 1), ("pile -1", 1), ("pile 01", 1), ("pile 1 1", 2),
                            (f"pile {BIG + 1}", 1), (f"worth {BIG + 1}", 1), ("worth", 1), ("worth x", 1), ("take 1", 2), ("take", 1), ("take x 1", 1),
                            ("take 1 x", 2), ("take 0 1 2", 3), ("sizes 1", 2), ("sizes 0 1 0", 3), ("free", 1), ("free 3", 1), ("back 1", 1),
                            ("table 1", 1), ("needless -", 1), ("least -", 1), ("wins 0", 1), ("winning 0", 1), ("undo", 0), ("1", 0), ("plain 1\n", 1)):
            for call in (desk, desk.say, desk.run):
                self.raised("NoLine", (wrong,), call, line)
        for line in [*no_integers(), 0, 1, ["book"], b"book"]:
            if not isinstance(line, str):
                for call in (desk, desk.say, desk.run):
                    self.raised("NoLine", (0,), call, line)
        self.assertEqual(desk("back"), "nothing")

    def test_runs(self):
        desk = Desk()
        self.exactly(desk.run(), [])
        self.exactly(desk.run("add fixed 1", "add fixed 2", "pile 7", "book"), ["ok", "ok", "0", "fixed 1, fixed 2"])
        for lines, wrong in ((("take 0 1", "add fixed 3", "books"), 0), (("back", "back", "pile x"), 1), (("take 0 9", None), 0), (("x", "take 0 1"), 0),
                             (("add fixed 5", "add fixed", "y"), 2)):
            self.raised("NoLine", (wrong,), desk.run, *lines)
            self.assertEqual(desk.run("book", "piles"), ["fixed 1, fixed 2", "7"])
        # A refused line does not stop a run, and each line is taken back by itself.
        self.exactly(desk.run("take 0 3", "take 0 2", "take 1 1", "plain 3", "piles"), ["refused NoTake", "ok", "refused NoPile", "1", "5 3"])
        self.exactly(desk.run("back", "piles", "back", "piles", "back", "piles"), ["ok", "5", "ok", "7", "ok", "-"])
        self.exactly(desk.run("back", "back", "back", "book"), ["ok", "ok", "nothing", "-"])

    def test_lines_that_change_nothing(self):
        desk = Desk()
        desk.run("add fixed 1", "pile 3")
        for line in ("add fixed 1", "drop fixed 2", "take 0 2", "take 1 1", "take 0 0", "book", "piles", "worth 3", "table", "free fixed 3", "sizes 0 1",
                     "sizes 5 2", "needless", "least", "wins", "winning"):
            desk(line)
        self.assertEqual(desk.run("back", "piles", "back", "book", "back"), ["ok", "-", "ok", "-", "nothing"])

    def test_a_pile_keeps_its_book(self):
        desk = Desk()
        self.assertEqual(desk.run("pile 5", "add fixed 1", "pile 5", "add fixed 2", "pile 5", "drop fixed 1", "drop fixed 2"), ["0", "ok", "1", "ok", "2", "ok", "ok"])
        self.assertEqual(desk.run("take 0 1", "take 1 2", "take 1 1", "take 2 2", "piles"), ["refused NoTake", "refused NoTake", "ok", "ok", "5 4 3"])
        self.assertEqual(desk.run("book", "worth 5", "table"), ["-", "0", "0 1 0"])

    def test_refused_lines(self):
        desk = Desk()
        desk.run("add fixed 1 rest 0 of 3")
        self.assertEqual(desk.run("add fixed 1 rest 0 of 5", "add fixed 1 rest 0 of 4", "add fixed 1 rest 0 of 5"), ["refused TooMany", "ok", "refused TooMany"])
        self.assertEqual(desk.run(*["plain 1", "pile 2"] * 10), [str(k) for k in range(20)])
        self.assertEqual(desk.run("plain 1", "pile 2", "take 19 1", "take 20 1", "wins"), ["refused TooMany"] * 2 + ["refused NoTake", "refused NoPile", "no"])
        self.assertEqual(desk.run("back", "back", "back", "plain 0", "piles"), ["ok"] * 3 + ["17", " ".join(["1", "2"] * 8 + ["1", "0"])])

    def test_without_a_table(self):
        desk = Desk()
        desk.run(*[f"add {rule}" for rule in ENDLESS.rules])
        for line in ("worth 0", "table", "free fixed 1", "sizes 0 1", "needless", "least"):
            self.exactly(desk(line), "refused TooMany")
        for line in ("sizes 0 0", "sizes 1 1", "sizes 6 7"):
            self.exactly(desk(line), "refused BadRule")
        self.assertEqual(desk.run("wins", "winning", "pile 500", "wins", "winning", "take 0 400", "piles"),
                         ["no", "-", "0", "refused TooMany", "refused TooMany", "ok", "100"])
        great = Desk()
        great.run("add fixed 400 leave 400", "add fixed 1 leave 399")
        self.assertEqual(great("sizes 0 1"), "refused TooMany")

    def test_many_rules(self):
        desk = Desk()
        self.assertEqual(set(desk.run(*[f"add {rule}" for rule in oracle.many_rules(400)])), {"ok"})
        self.assertEqual(desk.run("add down 400", "add fixed 1 rest 0 of 2", "drop fixed 1 rest 0 of 2", "add down 400", "add down 399"),
                         ["refused TooMany", "known", "ok", "ok", "refused TooMany"])

    def test_answers(self):
        desk = Desk()
        self.exactly(desk.run("book", "piles", "worth 7", "table", "free down 0", "sizes 0 1", "needless", "least", "wins", "winning", "back"),
                     ["-", "-", "0", "0 1 0", "barred 1 0", "(0)", "-", "-", "no", "-", "nothing"])
        desk.run("add fixed 4", "add fixed 2", "add fixed 1", "pile 5", "plain 1", "pile 3")
        self.exactly(desk.run("book", "piles", f"worth {BIG}", "table", "free fixed 3", "free fixed 5", "sizes 0 1", "sizes 1 2", "needless", "least"),
                     ["fixed 1, fixed 2, fixed 4", "5 1 3", "1", "0 3 0 1 2", "barred 3 0", "free", "(110)", "(110)", "fixed 4", "fixed 1, fixed 2"])
        self.exactly(desk.run("wins", "winning", "take 0 1", "wins", "winning", f"plain {BIG}", "winning"), ["yes", "0 1 / 0 4", "ok", "no", "-", "3", f"3 {BIG}"])

    def test_two_desks(self):
        one, other = Desk(), Desk()
        one("add fixed 1")
        self.assertEqual((one("book"), other("book")), ("fixed 1", "-"))
        with self.assertRaises(NoLine):
            other("add fixed x")


def say(hand, line):
    """What a desk kept by hand answers (its piles and its listing of them have one word)."""
    return hand.piles_() if line == "piles" else hand.say(line)


if __name__ == "__main__":
    unittest.main()
