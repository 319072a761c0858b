"""The texts of books, tables, size sets and positions."""

from freetakes.piles import Plain


def write_book(book):
    """The text of a book: a line for each rule."""
    return "\n".join(["book", *rule_lines(book)])


def write_table(table):
    """The text of a table: its begin and period, and a line with its numbers."""
    numbers = " ".join([str(number) for number in table.numbers])
    return f"table {table.begin} {table.period}\n{numbers}"


def write_sizes(sizes):
    """The text of a size set: a line of signs."""
    return f"sizes\n{signs_of(sizes.ahead)}|{signs_of(sizes.again)}"


def write_position(position):
    """The text of a position: a line for each pile, each pile with a book followed by the lines of its rules."""
    lines = ["position"]
    for pile in position.piles:
        lines.extend(pile_lines(pile))
    return "\n".join(lines)


def rule_lines(book):
    """The texts of the rules of the book, in order."""
    return [str(rule) for rule in book.rules]


def signs_of(row):
    """The bools of a row as signs."""
    return "".join(["+" if bit else "-" for bit in row])


def pile_lines(pile):
    """The lines of a pile."""
    if isinstance(pile, Plain):
        return [f"plain {pile.size}"]
    return [f"pile {pile.size} {len(pile.book)}", *rule_lines(pile.book)]
