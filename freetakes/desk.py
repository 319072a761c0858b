"""A desk, which keeps a book and piles, and does what lines of words say."""

from freetakes.books import Book
from freetakes.bounds import BIGGEST
from freetakes.errors import BadRule, NoLine, NoPile, NoTake, TooMany
from freetakes.free import free
from freetakes.free_sizes import free_sizes
from freetakes.needless import least_book, needless
from freetakes.piles import Pile, Plain
from freetakes.positions import Position
from freetakes.rules import Fixed, rule_of, wrong_word
from freetakes.words import wrong_among

# The first words of lines that go on with a rule, and how many numbers follow the first words of the other ones.
RULED = ("add", "drop", "free")
NUMBERS = {"pile": 1, "plain": 1, "take": 2, "book": 0, "piles": 0, "worth": 1, "table": 0, "sizes": 2, "needless": 0,
           "least": 0, "wins": 0, "winning": 0, "back": 0}


class Desk:
    """Keeps a book and a position. Its states have both of them, the first ones first."""

    def __init__(self):
        self.states = ((Book(), Position()),)

    def say(self, line):
        """Do what a line says, and return the answer."""
        return self.answer(words_of(line))

    def __call__(self, line):
        """The same as say."""
        return self.answer(words_of(line))

    def run(self, *lines):
        """The list of the answers to these lines, none of which is done if one is wrong."""
        rows = [words_of(line) for line in lines]
        answers = []
        for words in rows:
            answers.append(self.answer(words))
        return answers

    def answer(self, words):
        """The answer to a line of these words, which are right."""
        try:
            return self.done(words)
        except TooMany:
            return "refused TooMany"
        except NoPile:
            return "refused NoPile"
        except NoTake:
            return "refused NoTake"
        except BadRule:
            return "refused BadRule"

    def done(self, words):
        """The answer to a line that is not refused."""
        if words[0] == "back":
            return self.back()
        book, position = self.states[-1]
        if words[0] in CHANGES:
            change = CHANGES[words[0]]
            state, text = change(book, position, words)
            if state is not None:
                self.states = (*self.states, state)
            return text
        ask = QUESTIONS[words[0]]
        return ask(book, position, words)

    def back(self):
        """Take back the last change, if there is one."""
        if len(self.states) == 1:
            return "nothing"
        self.states = self.states[:-1]
        return "ok"


def words_of(line):
    """The words of a line; raises NoLine for any value that is no line of a desk."""
    if not isinstance(line, str):
        raise NoLine(0)
    words = line.split(" ")
    wrong = wrong_place(words)
    if wrong is not None:
        raise NoLine(wrong)
    return words


def wrong_place(words):
    """The index of the first of these words that cannot stand in a line, or their number if one lacks; else None."""
    if words[0] in RULED:
        wrong = wrong_word(words[1:])
        return None if wrong is None else 1 + wrong
    if words[0] not in NUMBERS:
        return 0
    return wrong_among(words, [(words[0],), *[(0, BIGGEST) for _ in range(NUMBERS[words[0]])]])


def add_rule(book, position, words):
    """The state with one rule more, None if it stands already, and the answer."""
    rule = rule_of(words[1:])
    if rule in book:
        return None, "known"
    return (book | rule, position), "ok"


def drop_rule(book, position, words):
    """The state with one rule less, None if it does not stand, and the answer."""
    rule = rule_of(words[1:])
    if rule not in book:
        return None, "unknown"
    return (book - rule, position), "ok"


def add_pile(book, position, words):
    """The state with one pile more, which has the book as it is now, and the index of the pile."""
    return (book, position ^ Pile(int(words[1]), book)), str(len(position))


def add_plain(book, position, words):
    """The state with one plain pile more, and the index of the pile."""
    return (book, position ^ Plain(int(words[1]))), str(len(position))


def take_some(book, position, words):
    """The state behind a take, and the answer."""
    return (book, position.after((int(words[1]), int(words[2])))), "ok"


def tell_book(book, position, words):
    """The text of the book."""
    return str(book)


def tell_piles(book, position, words):
    """The sizes of the piles."""
    return " ".join([str(pile.size) for pile in position.piles]) if position.piles else "-"


def tell_worth(book, position, words):
    """The worth of a heap by the book."""
    return str(book(int(words[1])))


def tell_table(book, position, words):
    """The begin, the period and the numbers of the book's table."""
    table = book.as_table()
    return " ".join([str(number) for number in (table.begin, table.period, *table.numbers)])


def tell_free(book, position, words):
    """Whether a rule is free, or where it is barred first."""
    found = free(book.as_table(), rule_of(words[1:]))
    return "free" if found else f"barred {found.heap} {found.left}"


def tell_sizes(book, position, words):
    """The free sizes for a rest and a modulus."""
    # A wrong rest or modulus is told also where there is no table.
    rule = Fixed(1, int(words[1]), int(words[2]))
    return str(free_sizes(book.as_table(), rule.rest, rule.modulus))


def tell_needless(book, position, words):
    """The text of the book of the needless rules."""
    return str(Book.of(needless(book)))


def tell_least(book, position, words):
    """The text of the least book."""
    return str(least_book(book))


def tell_wins(book, position, words):
    """Whether who moves next wins."""
    return "yes" if position.wins() else "no"


def tell_winning(book, position, words):
    """The winning takes."""
    return " / ".join([f"{index} {take}" for index, take in position.winning()]) if position.wins() else "-"


CHANGES = {"add": add_rule, "drop": drop_rule, "pile": add_pile, "plain": add_plain, "take": take_some}

QUESTIONS = {"book": tell_book, "piles": tell_piles, "worth": tell_worth, "table": tell_table, "free": tell_free,
             "sizes": tell_sizes, "needless": tell_needless, "least": tell_least, "wins": tell_wins,
             "winning": tell_winning}
