"""The texts of books, tables, size sets and positions: written, read, and spoilt at one to three places."""

import math
import random
import unittest

import oracle
import rule_words
from cases import BIG, Case, no_integers
from freetakes.books import Book
from freetakes.piles import Pile, Plain
from freetakes.positions import Position
from freetakes.reader import read, read_book, read_position, read_sizes, read_table
from freetakes.rules import Down, Fixed, Rule
from freetakes.sizes import Sizes
from freetakes.tables import Table
from freetakes.texts import write_book, write_position, write_sizes, write_table
from test_piles import random_pile

READERS = {"book": read_book, "table": read_table, "sizes": read_sizes, "position": read_position}
WORDS = [*rule_words.OTHER_WORDS, "book", "table", "sizes", "position", "plain", "pile", str(BIG), str(BIG + 1), "20", "21", "1001",
         "+", "-|+", "+|-+", "|", "+|", "-|", "||+", "fixed", "down", "8", "12", "4"]


def writer_of(thing):
    for kind, write in ((Book, write_book), (Table, write_table), (Sizes, write_sizes), (Position, write_position)):
        if isinstance(thing, kind):
            return write
    return None


def number(word, least, most):
    return word in ("0", "1", "2") and least <= int(word) <= most or \
        len(word) < 40 and word != "" and all(sign in "0123456789" for sign in word) and word[0] != "0" and least <= int(word) <= most


def wrong_line(lines, at, rights):
    """Where the line with this index is wrong, its words being right by these functions; None if it is right."""
    if at == len(lines):
        return at, 0
    for place, word in enumerate(lines[at]):
        if place == len(rights) or not rights[place](word):
            return at, place
    return (at, len(lines[at])) if len(lines[at]) < len(rights) else None


def equal(text):
    return lambda word: word == text


def within(least, most):
    return lambda word: number(word, least, most)


def wrong_rules(lines, first, after):
    """Where the lines from first to after - 1, which tell the rules of a book, are wrong."""
    rules = []
    for at in range(first, after):
        if at == len(lines) or at - first == 400:
            return at, 0
        wrong = rule_words.first_wrong(lines[at])
        if wrong is not None:
            return at, wrong
        rules.append(Rule.read(" ".join(lines[at])))
        if len(rules) > 1 and oracle.place(rules[-2]) >= oracle.place(rules[-1]):
            return at, 0
        if math.lcm(*[rule.modulus for rule in rules]) > 12:
            return at, 0
    return None


def wrong_table(lines):
    wrong = wrong_line(lines, 0, [equal("table"), within(0, 1000), within(1, 1000)])
    if wrong is not None:
        return wrong
    many = int(lines[0][1]) + int(lines[0][2])
    wrong = wrong_line(lines, 1, [equal("0")] + [within(0, 400)] * (many - 1))
    return wrong or ((2, 0) if len(lines) > 2 else None)


def is_signs(word):
    return set(word) <= set("+-|") and word.count("|") == 1 and word[-1] != "|" and len(word) <= 1001


def wrong_sizes(lines):
    wrong = wrong_line(lines, 0, [equal("sizes")]) or wrong_line(lines, 1, [is_signs])
    return wrong or ((2, 0) if len(lines) > 2 else None)


def wrong_piles(lines):
    wrong = wrong_line(lines, 0, [equal("position")])
    if wrong is not None:
        return wrong
    at = many = 0
    at += 1
    while at < len(lines):
        many += 1
        if many > 20:
            return at, 0
        if lines[at][0] == "plain":
            wrong = wrong_line(lines, at, [equal("plain"), within(0, BIG)])
            after = at + 1
        else:
            wrong = wrong_line(lines, at, [equal("pile"), within(0, BIG), within(0, 400)])
            if wrong is None:
                after = at + 1 + int(lines[at][2])
                wrong = wrong_rules(lines, at + 1, after)
        if wrong is not None:
            return wrong
        at = after
    return None


def wrong_place(text, kind):
    """Where a text of this kind is wrong, word by word; None if it is right."""
    lines = [line.split(" ") for line in text.split("\n")]
    if lines[0][0] != kind:
        return 0, 0
    if kind == "book":
        return wrong_line(lines, 0, [equal("book")]) or wrong_rules(lines, 1, len(lines))
    return {"table": wrong_table, "sizes": wrong_sizes, "position": wrong_piles}[kind](lines)


def random_things(rng):
    """A drawn book, table, size set and position."""
    book = Book.of(oracle.random_rules(rng, rng.randint(0, 7)))
    begin, period = rng.randint(0, 6), rng.randint(1, 6)
    table = Table(begin, period, [0] + [rng.choice([0, 1, 2, 10, 400]) for _ in range(begin + period - 1)])
    bits = lambda least: [rng.random() < 0.5 for _ in range(rng.randint(least, 7))]
    sizes = Sizes(bits(0), bits(1))
    piles = [rng.choice([random_pile(rng, 30), Plain(BIG), Pile(BIG, book)]) for _ in range(rng.choice([0, 1, 2, 3, 20]))]
    return [book, table, sizes, Position.of(piles)]


def spoilt(rng, text):
    """The text with one change: of a word, of a line or of a sign."""
    lines = [line.split(" ") for line in text.split("\n")]
    at = rng.randrange(len(lines))
    place = rng.randrange(len(lines[at]))
    way = rng.randrange(9)
    if way == 0:
        lines[at][place] = rng.choice(WORDS)
    elif way == 1:
        lines[at].insert(place, rng.choice(WORDS))
    elif way == 2:
        del lines[at][place]
    elif way == 3:
        lines.insert(at, list(rng.choice(lines)))
    elif way == 4:
        del lines[at]
    elif way == 5:
        other = rng.randrange(len(lines))
        lines[at], lines[other] = lines[other], lines[at]
    elif way == 6:
        lines.append(rng.choice([[], ["plain", "3"], ["fixed", "400"], ["down", "400"], ["fixed", "1", "rest", "0", "of", "5"]]))
    elif way == 7:
        lines[at].append(rng.choice(["", *WORDS]))
    text = "\n".join(" ".join(line) for line in lines)
    if way == 8:
        spot = rng.randrange(len(text) + 1)
        text = text[:spot] + rng.choice(["\n", " ", "0", "+", "-", "|", "x", ""]) + text[spot + rng.randrange(2):]
    return text


class TestTexts(Case):
    def check(self, text, kind):
        """Check what the reader of this kind, and read, do with the text; return whether it is right."""
        wrong = wrong_place(text, kind)
        if wrong is None:
            found = READERS[kind](text)
            self.assertEqual(read(text), found)
            self.assertIs(type(read(text)), type(found))
            return True
        self.raised("BadText", wrong, READERS[kind], text)
        if text.split("\n")[0].split(" ")[0] == kind:
            self.raised("BadText", wrong, read, text)
        return False

    def test_what_is_written_is_read(self):
        rng = random.Random(1)
        for _ in range(150):
            for thing in random_things(rng):
                text = writer_of(thing)(thing)
                self.assertIs(type(text), str)
                kind = text.split("\n")[0].split(" ")[0]
                for call in (read, READERS[kind]):
                    found = call(text)
                    self.assertIs(type(found), type(thing))
                    self.assertEqual(found, thing)
                    self.assertEqual(writer_of(found)(found), text)
                self.assertTrue(self.check(text, kind))
                for other in set(READERS) - {kind}:
                    self.raised("BadText", (0, 0), READERS[other], text)

    def test_spoilt_texts(self):
        rng = random.Random(2)
        right = wrong = 0
        for _ in range(1200):
            for thing in random_things(rng):
                text = writer_of(thing)(thing)
                kind = text.split("\n")[0].split(" ")[0]
                for _ in range(rng.randint(1, 3)):
                    text = spoilt(rng, text)
                if self.check(text, kind):
                    right += 1
                else:
                    wrong += 1
        self.assertGreater(right, 100)
        self.assertGreater(wrong, 2500)

    def test_written(self):
        book = Book(Down(0, 1, 3), Fixed(4, 1, 3, 2), Fixed(1))
        self.exactly(write_book(book), "book\nfixed 1\nfixed 4 rest 1 of 3 leave 2\ndown 0 rest 1 of 3")
        self.exactly(write_book(Book()), "book")
        self.exactly(write_table(Table(1, 4, [0, 0, 1, 2, 1])), "table 1 4\n0 0 1 2 1")
        self.exactly(write_table(Table(0, 4, (0, 400, 0, 400))), "table 0 2\n0 400")
        self.exactly(write_sizes(Sizes((False, False, True), (False, True))), "sizes\n-|-+")
        self.exactly(write_sizes(Sizes.every()), "sizes\n|+")
        self.exactly(write_position(Position()), "position")
        position = Pile(7, book) ^ Plain(BIG) ^ Pile(0, Book())
        wanted = "position\npile 7 3\nfixed 1\nfixed 4 rest 1 of 3 leave 2\ndown 0 rest 1 of 3\nplain " + str(BIG) + "\npile 0 0"
        self.exactly(write_position(position), wanted)
        self.assertEqual(read(wanted), position)

    def test_no_strings(self):
        for thing in [*no_integers(), 0, 1, ["book"], b"book"]:
            for call in [read, *READERS.values()]:
                if not isinstance(thing, str):
                    self.raised("BadText", (0, 0), call, thing)
        for text in ("", " ", "\n", " book", "Book", "books", "fixed 1", "tables", "position\t", "book\tbook", "\nbook"):
            for call in [read, *READERS.values()]:
                self.raised("BadText", (0, 0), call, text)

    def test_books(self):
        self.assertEqual(read("book"), Book())
        for text, wrong in (("book ", (0, 1)), ("book book", (0, 1)), ("book\n", (1, 0)), ("book\nfixed 1\n", (2, 0)), ("book\nfixed", (1, 1)),
                            ("book\nfixed 1 ", (1, 2)), ("book\nfixed  1", (1, 1)), ("book\nfixed 2\nfixed 1", (2, 0)),
                            ("book\nfixed 1\nfixed 1", (2, 0)), ("book\ndown 0\nfixed 1", (2, 0)), ("book\nfixed 2\nfixed 1 rest", (2, 3)),
                            ("book\nfixed 1 rest 0 of 3\nfixed 1 rest 0 of 5", (2, 0)), ("book\nfixed 1 rest 0 of 1", (1, 5)),
                            ("book\nfixed 1 rest 0 of 5\nfixed 2 rest 0 of 4 leave 0", (2, 7)), ("book\nfixed 401", (1, 1))):
            self.raised("BadText", wrong, read_book, text)
            self.raised("BadText", wrong, read, text)
        self.assertEqual(read("book\nfixed 1 rest 0 of 3\nfixed 1 rest 0 of 4").modulus, 12)

    def test_many_rules(self):
        rules = Book.of(oracle.many_rules(400)).rules
        text = write_book(Book(*rules))
        self.assertEqual(len(read(text)), 400)
        for more in ("down 400", "down 400 rest 0 of 5", "", "x", "fixed", "down 400 rest 0 of 2 leave 1"):
            self.raised("BadText", (401, 0), read_book, text + "\n" + more)
            if more:
                self.raised("BadText", (401, 0), read_book, text + "\n" + more + "\nx")
        shorter = text[:text.rindex("\n")]
        self.assertEqual(len(read(shorter)), 399)
        self.assertEqual(len(read(shorter + "\ndown 400 rest 1 of 2")), 400)
        pile = Position(Pile(3, Book(*rules)))
        self.assertEqual(read(write_position(pile)), pile)
        self.raised("BadText", (1, 2), read_position, write_position(pile).replace("pile 3 400", "pile 3 401"))
        self.raised("BadText", (401, 0), read_position, write_position(pile)[:write_position(pile).rindex("\n")])

    def test_tables(self):
        self.assertEqual(read("table 2 2\n0 1 0 1"), Table(0, 2, [0, 1]))
        for text, wrong in (("table", (0, 1)), ("table 0", (0, 2)), ("table 0 1", (1, 0)), ("table 0 1\n0", None), ("table 0 0\n", (0, 2)),
                            ("table 1001 1", (0, 1)), ("table 0 1001", (0, 2)), ("table 0 1 ", (0, 3)), ("table 0 1\n1", (1, 0)),
                            ("table 0 2\n0", (1, 1)), ("table 0 2\n0 401", (1, 1)), ("table 0 2\n0 400", None), ("table 0 2\n0 1 1", (1, 2)),
                            ("table 0 3\n0 x", (1, 1)), ("table 0 3\n1", (1, 0)), ("table 0 2\n0 1\n", (2, 0)), ("table 0 2\n0\n0", (1, 1)),
                            ("table 0 1\n", (1, 0)), ("table 00 1\n0", (0, 1)), ("table 0 1\n00", (1, 0)), ("table -1 2\n0", (0, 1)),
                            ("table 0 1\n0\n0\n0", (2, 0)), ("table 1 1\n0 0 ", (1, 2)), ("table 1 0 0\n0", (0, 2))):
            if wrong is None:
                self.assertIs(type(read_table(text)), Table)
            else:
                self.raised("BadText", wrong, read_table, text)
                self.raised("BadText", wrong, read, text)

    def test_great_tables(self):
        rng = random.Random(3)
        numbers = [0] + [rng.randint(0, 400) for _ in range(1999)]
        text = "table 1000 1000\n" + " ".join(map(str, numbers))
        table = Table(1000, 1000, numbers)
        self.assertEqual(read(text), table)
        self.assertEqual(read(write_table(table)), table)
        self.raised("BadText", (1, 2000), read, text + " 0")
        self.raised("BadText", (1, 1999), read, text[:text.rindex(" ")])

    def test_sizes(self):
        self.assertEqual(read("sizes\n--+|-+"), Sizes((False, False, True), (False, True)))
        self.assertEqual(read("sizes\n|+++"), Sizes.every())
        for text, wrong in (("sizes", (1, 0)), ("sizes 1", (0, 1)), ("sizes\n", (1, 0)), ("sizes\n+", (1, 0)), ("sizes\n+|", (1, 0)), ("sizes\n|", (1, 0)),
                            ("sizes\n+|+|+", (1, 0)), ("sizes\n||+", (1, 0)), ("sizes\n+|-x", (1, 0)), ("sizes\n+|- ", (1, 1)), ("sizes\n+|- +", (1, 1)),
                            ("sizes\n+|-\n", (2, 0)), ("sizes\n 1(0)", (1, 0)), ("sizes\n+|\n+", (1, 0)), ("sizes\n+ |+", (1, 0)), ("sizes\n+|+|", (1, 0))):
            self.raised("BadText", wrong, read_sizes, text)
            self.raised("BadText", wrong, read, text)

    def test_many_sizes(self):
        rng = random.Random(4)
        for ahead in (0, 1, 500, 999):
            signs = "".join(rng.choice("+-") for _ in range(1000))
            word = signs[:ahead] + "|" + signs[ahead:]
            sizes = Sizes([sign == "+" for sign in signs[:ahead]], [sign == "+" for sign in signs[ahead:]])
            self.assertEqual(read("sizes\n" + word), sizes)
            self.assertEqual(read(write_sizes(sizes)), sizes)
            self.raised("BadText", (1, 0), read, "sizes\n" + word + "+")
            self.raised("BadText", (1, 0), read, "sizes\n+" + word)
            self.assertIsInstance(read("sizes\n" + word[:-1] if ahead < 999 else "sizes\n|+"), Sizes)

    def test_positions(self):
        text = "position\nplain 3\npile 5 2\nfixed 1\ndown 0\nplain 0"
        self.assertEqual(read(text), Plain(3) ^ Pile(5, Book(Fixed(1), Down(0))) ^ Plain(0))
        for text, wrong in (("position ", (0, 1)), ("position\n", (1, 0)), ("position\nplain", (1, 1)), ("position\nplain 1 0", (1, 2)),
                            ("position\npile 1", (1, 2)), ("position\npile 1 0 0", (1, 3)), ("position\npile 1 1", (2, 0)),
                            ("position\npile 1 2\nfixed 1", (3, 0)), ("position\npile 1 401", (1, 2)), ("position\npile 1 400", (2, 0)),
                            ("position\npile 1 1\nplain 1", (2, 0)), ("position\npile 1 0\nfixed 1", (2, 0)), ("position\npile 1 2\nfixed 2\nfixed 1", (3, 0)),
                            (f"position\nplain {BIG + 1}", (1, 1)), (f"position\npile {BIG + 1} 0", (1, 1)), ("position\nplain -1", (1, 1)),
                            ("position\npile 1 2\nfixed 1 rest 0 of 5\nfixed 1 rest 0 of 3", (3, 0)), ("position\nplain 1\n\nplain 1", (2, 0)),
                            ("position\npile 3 1\nfixed 1 leave", (2, 3)), ("position\nheap 3", (1, 0))):
            self.raised("BadText", wrong, read_position, text)
            self.raised("BadText", wrong, read, text)
        # Each pile has a book of its own: its rules are in no order with those of another one.
        read("position\npile 1 1\nfixed 2 rest 0 of 5\npile 1 1\nfixed 1 rest 0 of 4")

    def test_many_piles(self):
        for line in ("plain 3", "pile 3 1\nfixed 2", "pile 7 0"):
            text = "position" + ("\n" + line) * 20
            self.assertEqual(len(read(text)), 20)
            many = text.count("\n") + 1
            for more in (line, "", "x", "plain x", "pile"):
                self.raised("BadText", (many, 0), read_position, text + "\n" + more)
            self.assertEqual(len(read("position" + ("\n" + line) * 19)), 19)


if __name__ == "__main__":
    unittest.main()
