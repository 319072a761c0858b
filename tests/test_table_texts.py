import random
import unittest

from cases import Case, no_integers
from freetakes.tables import Table

WORTHS = {str(number) for number in range(401)}


def can_begin(words):
    """Whether these words stand at the beginning of a right text: straight from what the document says of one."""
    if words.count("|") > 1 or not all(word == "|" or word in WORTHS for word in words):
        return False
    numbers = [word for word in words if word != "|"]
    ahead = words.index("|") if "|" in words else len(words)
    return (not numbers or numbers[0] == "0") and ahead <= 1000 and len(numbers) - ahead <= 1000


def first_wrong(words):
    for at in range(len(words)):
        if not can_begin(words[:at + 1]):
            return at
    return None if "|" in words[:-1] else len(words)


class Texts(Case):
    def check(self, words):
        text = " ".join(words)
        words = text.split(" ")
        wrong = first_wrong(words)
        if wrong is None:
            numbers = [int(word) for word in words if word != "|"]
            begin = words.index("|")
            self.assertEqual(Table.read(text), Table(begin, len(numbers) - begin, numbers))
        else:
            self.raised("BadText", [0, wrong], Table.read, text)

    def test_str(self):
        for rows, text in [((0, 1, [0]), "| 0"), ((1, 1, [0, 1]), "0 | 1"), ((2, 2, [0, 0, 0, 1]), "0 0 | 0 1"),
                           ((0, 3, [0, 1, 2]), "| 0 1 2"), ((3, 4, [0, 0, 0, 1, 0, 1, 0]), "0 0 | 0 1"),
                           ((2, 1, [0, 400, 10]), "0 400 | 10")]:
            self.exactly(str(Table(*rows)), text)
            self.assertEqual(Table.read(text), Table(*rows))

    def test_read_what_str_writes(self):
        rng = random.Random(1)
        for _ in range(100):
            begin, period = rng.randint(0, 9), rng.randint(1, 9)
            table = Table(begin, period, [0] + [rng.choice([0, 1, 2, 10, 99, 400]) for _ in range(begin + period - 1)])
            self.assertEqual(Table.read(str(table)), table)
        longest = Table(1000, 1000, [0] * 999 + [1] + [0] * 999 + [400])
        self.assertEqual(Table.read(text=str(longest)), longest)

    def test_read_no_least_form(self):
        self.exactly([str(Table.read("0 1 | 1 1")), str(Table.read("0 | 1 0")), str(Table.read("| 0 1 0 1"))],
                     ["0 | 1", "| 0 1", "| 0 1"])
        self.assertEqual(Table.read("| 0 1"), Table(0, 2, (0, 1)))

    def test_named_edges(self):
        for text, word in [("", 0), (" ", 0), ("|", 1), ("| ", 1), ("0", 1), ("0 |", 2), ("0 0 0 1", 4), ("1 | 0", 0), ("| 1", 1),
                           ("| 1 0", 1), ("400 | 0", 0), ("0 | | 1", 2), ("| |", 1), ("| 0 | 0", 2), ("0 401 | 1", 1), ("0  | 1", 1),
                           ("0 | 1 ", 3), (" 0 | 1", 0), ("0 | 01", 2), ("0 | +1", 2), ("00 | 1", 0), ("0 | 1\n", 2), ("0|1", 0),
                           ("0 | -1", 2), ("-", 0), ("0 1 x | 0", 2), ("0 | 1 x", 3)]:
            self.raised("BadText", [0, word], Table.read, text)

    def test_changed_texts(self):
        rng = random.Random(2)
        odd = ["", "|", "||", "0", "1", "00", "01", "+1", "-1", "400", "401", "1000", "x", "1\n", "1,", "9" * 300]
        for _ in range(4000):
            words = [str(rng.choice([0, 0, 1, 2, 400])) for _ in range(rng.randint(0, 5))] + ["|"]
            words += [str(rng.choice([0, 1, 17])) for _ in range(rng.randint(0, 4))]
            if rng.random() < 0.7:
                words = ["0", *words]
            for _ in range(rng.randint(0, 2)):
                at = rng.randint(0, len(words))
                choice = rng.randrange(4)
                if choice == 0:
                    words[at:at] = [rng.choice(odd)]
                elif choice == 1:
                    words[at:at + 1] = [rng.choice(odd)]
                elif choice == 2 and len(words) > 1:
                    del words[at:at + 1]
                elif choice == 3:
                    words[at:at] = words[at - 1:at]
            self.check(words or [""])

    def test_how_many_worths(self):
        self.check(["0"] * 1000 + ["|"] + ["1"] * 1000)
        self.raised("BadText", [0, 1000], Table.read, " ".join(["0"] * 1001 + ["|", "1"]))
        self.raised("BadText", [0, 1000], Table.read, " ".join(["0"] * 1001))
        self.raised("BadText", [0, 1000], Table.read, " ".join(["0"] * 1000))
        self.raised("BadText", [0, 2001], Table.read, " ".join(["0"] * 1000 + ["|"] + ["1"] * 1001))
        self.raised("BadText", [0, 1001], Table.read, " ".join(["|"] + ["0"] * 1001))
        self.raised("BadText", [0, 1001], Table.read, " ".join(["0"] * 1000 + ["|"]))
        self.check(["|"] + ["0"] * 999 + ["1"])

    def test_what_is_no_string(self):
        for value in [*no_integers(), 0, [0, "|", 1], b"| 0"]:
            if not isinstance(value, str):
                self.raised("BadText", [0, 0], Table.read, value)


if __name__ == "__main__":
    unittest.main()
