"""The reading of the texts of books, tables, size sets and positions.

A text is read as a list of lines, each a list of its words.
"""

from math import lcm

from freetakes.books import MOST_COMMON, Book
from freetakes.bounds import BIGGEST
from freetakes.errors import BadText
from freetakes.piles import Pile, Plain
from freetakes.positions import Position
from freetakes.rules import rule_of, wrong_word
from freetakes.sizes import Sizes
from freetakes.tables import MOST_WORTH, Table
from freetakes.words import wrong_among

SIZE_SLOT = (0, BIGGEST)


def read_book(text):
    """The book with this text."""
    lines = lines_of(text)
    check_line(lines, 0, [("book",)])
    return book_at(lines, 1, len(lines))


def read_table(text):
    """The table with this text, which need not be in least form."""
    lines = lines_of(text)
    check_line(lines, 0, [("table",), (0, Table.MOST), (1, Table.MOST)])
    begin, period = int(lines[0][1]), int(lines[0][2])
    # Heap 0 has no take, and so the worth 0.
    check_line(lines, 1, [(0, 0), *[(0, MOST_WORTH) for _ in range(begin + period - 1)]])
    check_end(lines, 2)
    return Table(begin, period, [int(word) for word in lines[1]])


def read_sizes(text):
    """The size set with this text, which need not be in least form."""
    lines = lines_of(text)
    check_line(lines, 0, [("sizes",)])
    if len(lines) == 1 or not tells_sizes(lines[1][0]):
        raise BadText(1, 0)
    if len(lines[1]) > 1:
        raise BadText(1, 1)
    check_end(lines, 2)
    ahead, _, again = lines[1][0].partition("|")
    return Sizes([sign == "+" for sign in ahead], [sign == "+" for sign in again])


def read_position(text):
    """The position with this text."""
    lines = lines_of(text)
    check_line(lines, 0, [("position",)])
    piles = []
    at = 1
    while at < len(lines):
        if len(piles) == Position.MOST:
            raise BadText(at, 0)
        pile, at = pile_at(lines, at)
        piles.append(pile)
    return Position.of(piles)


def read(text):
    """The thing with this text, of the kind that its first word tells."""
    first = lines_of(text)[0][0]
    if first == "book":
        return read_book(text)
    if first == "table":
        return read_table(text)
    if first == "sizes":
        return read_sizes(text)
    if first == "position":
        return read_position(text)
    raise BadText(0, 0)


def lines_of(text):
    """The lines of a text; raises BadText for any value that is no string."""
    if not isinstance(text, str):
        raise BadText(0, 0)
    return [line.split(" ") for line in text.split("\n")]


def check_line(lines, at, slots):
    """Raise BadText if the line with this index lacks, or its words do not fit the slots."""
    if at == len(lines):
        raise BadText(at, 0)
    check_word(at, wrong_among(lines[at], slots))


def check_word(at, wrong):
    """Raise BadText if a word of the line with this index is wrong, its index being told."""
    if wrong is not None:
        raise BadText(at, wrong)


def check_end(lines, many):
    """Raise BadText if there are more lines."""
    if len(lines) > many:
        raise BadText(many, 0)


def tells_sizes(word):
    """Whether the word has the signs of a size set."""
    ahead, _, again = word.partition("|")
    return again != "" and len(ahead + again) <= Sizes.MOST and all([sign in "+-" for sign in ahead + again])


def pile_at(lines, at):
    """The pile that is told by the line with this index and the ones behind it, and the index of the next line."""
    if lines[at][0] == "plain":
        check_line(lines, at, [("plain",), SIZE_SLOT])
        return Plain(int(lines[at][1])), at + 1
    check_line(lines, at, [("pile",), SIZE_SLOT, (0, Book.MOST)])
    after = at + 1 + int(lines[at][2])
    return Pile(int(lines[at][1]), book_at(lines, at + 1, after)), after


def book_at(lines, first, after):
    """The book of the rules that the lines from first to after - 1 tell."""
    rules = []
    modulus = 1
    for at in range(first, after):
        if at == len(lines) or len(rules) == Book.MOST:
            raise BadText(at, 0)
        check_word(at, wrong_word(lines[at]))
        rule = rule_of(lines[at])
        modulus = lcm(modulus, rule.modulus)
        if modulus > MOST_COMMON or (rules and rule.rank <= rules[-1].rank):
            raise BadText(at, 0)
        rules.append(rule)
    return Book.of(rules)
