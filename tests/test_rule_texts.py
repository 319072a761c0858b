import random
import unittest

import oracle
from cases import Case, no_integers
from freetakes.books import Book
from freetakes.rules import Down, Fixed, Rested, Rule, Sized
from freetakes.words import number_of
from rule_words import OTHER_WORDS, RIGHT, first_wrong


class Texts(Case):
    def check(self, words):
        text = " ".join(words)
        words = text.split(" ")
        wrong = first_wrong(words)
        if wrong is None:
            self.assertEqual(str(Rule.read(text)), text)
        else:
            self.raised("BadText", [0, wrong], Rule.read, text)

    def test_str(self):
        for rule, text in [(Fixed(4), "fixed 4"), (Fixed(4, 1, 3), "fixed 4 rest 1 of 3"), (Fixed(4, leave=2), "fixed 4 leave 2"),
                           (Fixed(4, 1, 3, 2), "fixed 4 rest 1 of 3 leave 2"), (Fixed(4, 0, 3), "fixed 4 rest 0 of 3"),
                           (Down(0), "down 0"), (Down(0, 1, 3), "down 0 rest 1 of 3"), (Down(7, 0, 2), "down 7 rest 0 of 2")]:
            self.exactly(str(rule), text)
            self.assertEqual(Rule.read(text), rule)

    def test_read_what_str_writes(self):
        rng = random.Random(5)
        for _ in range(300):
            rule = oracle.random_rule(rng, [1, 2, 3, 4, 5, 6], 400, 400)
            self.assertIs(type(Rule.read(str(rule))), type(rule))
            self.assertEqual(Rule.read(str(rule)), rule)

    def test_read_of_each_class(self):
        for kind in (Rule, Rested, Sized, Fixed, Down):
            self.assertEqual(kind.read("fixed 4 rest 1 of 3 leave 2"), Fixed(4, 1, 3, 2))
            self.assertEqual(kind.read(text="down 0 rest 1 of 3"), Down(0, 1, 3))
            self.raised("BadText", [0, 2], kind.read, "down 0 leave 1")

    def test_named_edges(self):
        for text, word in [("", 0), (" ", 0), ("fixed", 1), ("fixed ", 1), ("fixed 4 ", 2), (" fixed 4", 0), ("fixed  4", 1),
                           ("fixed 0", 1), ("fixed 401", 1), ("down 401", 1), ("down", 1), ("fixed 4 rest", 3),
                           ("fixed 4 rest 0 of 1", 5), ("fixed 4 rest 2 of 2", 5), ("fixed 4 rest 5 of 5", 5), ("fixed 4 rest 6 of 6", 3),
                           ("fixed 4 rest 1 of 7", 5), ("fixed 4 leave 0", 3), ("fixed 4 leave 401", 3), ("fixed 4 leave 2 rest 1 of 3", 4),
                           ("fixed 4 rest 1 of 3 leave 2 leave 2", 8), ("down 0 leave 1", 2), ("down 0 rest 1 of 3 leave 2", 6),
                           ("fixed 04", 1), ("fixed +4", 1), ("fixed 4 rest 01 of 3", 3), ("fixed 4\n", 1), ("fixed\n4", 0),
                           ("fixed 4 rest x of 9", 3), ("fixed 4 rest 1 of", 5), ("fixed 4 rest 1", 4), ("4", 0), ("-", 0)]:
            self.raised("BadText", [0, word], Rule.read, text)

    def test_words_left_out_doubled_put_in_exchanged(self):
        for text in RIGHT:
            words = text.split(" ")
            self.check(words)
            for at in range(len(words) + 1):
                self.check(words[:at])
                self.check(words[:at] + words[at + 1:])
                self.check(words[:at + 1] + words[at:])
                for other in range(at + 1, len(words)):
                    exchanged = list(words)
                    exchanged[at], exchanged[other] = exchanged[other], exchanged[at]
                    self.check(exchanged)
                for word in OTHER_WORDS:
                    self.check(words[:at] + [word] + words[at:])
                    self.check(words[:at] + [word] + words[at + 1:])

    def test_all_short_rests(self):
        for rest in range(-1, 8):
            for modulus in range(-1, 8):
                self.check(["fixed", "4", "rest", str(rest), "of", str(modulus)])
                self.check(["down", "4", "rest", str(rest), "of", str(modulus)])
                self.check(["fixed", "4", "rest", str(rest), "of", str(modulus), "leave", "3"])

    def test_all_numbers(self):
        for number in range(0, 420):
            for words in (["fixed", "{}"], ["down", "{}"], ["fixed", "1", "leave", "{}"]):
                self.check([word.format(number) for word in words])

    def test_random_words(self):
        rng = random.Random(3)
        for _ in range(3000):
            self.check([rng.choice(OTHER_WORDS + ["fixed", "down", "rest", "of", "leave"] * 4) for _ in range(rng.randint(1, 9))])

    def test_what_is_no_string(self):
        for value in [*no_integers(), 0, 4, 10 ** 39, b"fixed 4", ["fixed", "4"], Book(Fixed(1))]:
            if not isinstance(value, str):
                self.raised("BadText", [0, 0], Rule.read, value)

    def test_numbers_of_other_characters(self):
        for word in ("\u0664", "\u00b2", "\uff14", "4\u0664", "9" * 5000):
            self.assertIsNone(number_of(word, 0, 400))
            self.raised("BadText", [0, 1], Rule.read, "fixed " + word)


if __name__ == "__main__":
    unittest.main()
