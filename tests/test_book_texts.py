import random
import unittest

import oracle
from cases import Case, no_integers
from freetakes.books import Book
from freetakes.rules import Down, Fixed
from oracle import many_rules
from rule_words import OTHER_WORDS, RIGHT, first_wrong


def first_wrong_of_parts(text):
    ahead = 0
    for part in text.split(", "):
        words = part.split(" ")
        wrong = first_wrong(words)
        if wrong is not None:
            return ahead + wrong
        ahead += len(words)
    return None


class Texts(Case):
    def test_str(self):
        self.exactly(str(Book(Down(0, 1, 3), Fixed(4, 1, 3, 2), Fixed(1))), "fixed 1, fixed 4 rest 1 of 3 leave 2, down 0 rest 1 of 3")
        self.exactly([str(Book()), str(Book(Fixed(2)))], ["-", "fixed 2"])

    def test_read_what_str_writes(self):
        for book in [*oracle.random_books(9, 60, 8), Book(), Book.plain(400), Book.of(many_rules(400))]:
            self.assertIs(type(Book.read(str(book))), Book)
            self.assertEqual(Book.read(str(book)), book)

    def test_any_order_and_twice(self):
        self.assertEqual(Book.read("fixed 2, fixed 1, fixed 2"), Book.plain(2))
        self.assertEqual(Book.read("down 0 rest 1 of 3, fixed 1, fixed 4 rest 1 of 3 leave 2, fixed 1"),
                         Book(Fixed(1), Fixed(4, 1, 3, 2), Down(0, 1, 3)))
        self.assertEqual(Book.read(text="-"), Book())

    def test_named_edges(self):
        for text, word in [("", 0), ("fixed 1, down", 3), ("fixed 1, ", 2), (", fixed 1", 0), ("fixed 1,", 1), ("fixed 1,fixed 2", 1),
                           ("fixed 1 , fixed 2", 2), ("fixed 1,  fixed 2", 2), ("-, fixed 1", 0), ("fixed 1, -", 2), ("- ", 0),
                           ("fixed, down 0", 1), ("fixed 4 rest 1 of 3 leave 2, fixed 4 rest 2 of 2", 13), ("fixed 1, , fixed 2", 2),
                           (",", 0), (", ", 0), ("fixed 1;fixed 2", 1), ("fixed 1, fixed 0", 3), ("fixed 1\nfixed 2", 1)]:
            self.raised("BadText", [0, word], Book.read, text)

    def test_changed_texts(self):
        rng = random.Random(6)
        for _ in range(3000):
            parts = [rng.choice(RIGHT) for _ in range(rng.randint(1, 4))]
            parts = [part for part in parts if " 5" not in part]
            words = ", ".join(parts or ["fixed 9"]).split(" ")
            at = rng.randrange(len(words))
            choice = rng.randrange(5)
            if choice == 0:
                words[at:at] = [rng.choice(OTHER_WORDS)]
            elif choice == 1:
                words[at] = rng.choice(OTHER_WORDS) + rng.choice(["", ","])
            elif choice == 2:
                del words[at]
            elif choice == 3:
                words[at:at] = [words[at]]
            text = " ".join(words)
            wrong = first_wrong_of_parts(text)
            if text == "-":
                self.assertEqual(Book.read(text), Book())
            elif wrong is None:
                self.assertEqual({str(rule) for rule in Book.read(text).rules}, set(text.split(", ")))
            else:
                self.raised("BadText", [0, wrong], Book.read, text)

    def test_what_is_no_string(self):
        for value in [*no_integers(), 0, Book(Fixed(1)), ["fixed 1"], b"-"]:
            if not isinstance(value, str):
                self.raised("BadText", [0, 0], Book.read, value)

    def test_too_many_comes_behind_the_text(self):
        self.raised("TooMany", ["modulus", 12], Book.read, "fixed 1 rest 0 of 5, fixed 1 rest 0 of 3")
        self.raised("BadText", [0, 13], Book.read, "fixed 1 rest 0 of 5, fixed 1 rest 0 of 3, fixed")
        text = ", ".join(str(rule) for rule in many_rules(401))
        self.raised("TooMany", ["rules", 400], Book.read, text)
        self.raised("TooMany", ["modulus", 12], Book.read, text + ", down 0 rest 0 of 5, down 0 rest 0 of 3")
        self.assertEqual(len(Book.read(", ".join(str(rule) for rule in many_rules(400) * 2))), 400)


if __name__ == "__main__":
    unittest.main()
