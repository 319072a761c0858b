"""Piles: heaps with their rule books, and plain ones."""

from freetakes.anypile import AnyPile
from freetakes.books import Book
from freetakes.bounds import BIGGEST, check_size, is_number
from freetakes.errors import BadBook, BadNumber, NoTake
from freetakes.positions import Position
from freetakes.rules import stands


class Pile(AnyPile):
    """A heap with its rule book."""

    def __init__(self, size, book):
        check_size(size)
        if not isinstance(book, Book):
            raise BadBook(None)
        self.size = size
        self.book = book

    def __eq__(self, other):
        return isinstance(other, Pile) and self.size == other.size and self.book == other.book

    def __str__(self):
        return f"{self.size} by {self.book}"

    def __bool__(self):
        return any([stands(rule, self.size) for rule in self.book.rules])

    def __lt__(self, other):
        check_alike(self, other)
        return self.size < other.size

    def __le__(self, other):
        check_alike(self, other)
        return self.size <= other.size

    def __add__(self, other):
        return self.resized(greater_size(self, other))

    def __sub__(self, other):
        return self.resized(lesser_size(self, other))

    def __floordiv__(self, other):
        check_divisor(other)
        return self.size // other

    def __mod__(self, other):
        check_divisor(other)
        return self.size % other

    def __xor__(self, other):
        return Position(self) ^ other

    def its_worth(self):
        """The worth of the heap by its book."""
        return self.book(self.size)

    def each_take(self):
        """The numbers that can be taken, ascending."""
        for take in self.book.takes(self.size):
            yield take

    def lets(self, k):
        """Whether any value is a number that can be taken."""
        return is_number(k, 1, self.size) and k in self.book.takes(self.size)

    def takes_to(self, worth):
        """The ascending list of the takes that leave a heap of this worth."""
        return [take for take in self.book.takes(self.size) if self.book(self.size - take) == worth]

    def resized(self, size):
        """The pile of this size, of the same class and with the same book."""
        return Pile(size, self.book)


class Plain(Pile):
    """A heap from which any number from 1 to all may be taken."""

    def __init__(self, size):
        check_size(size)
        self.size = size
        self.book = None

    def __eq__(self, other):
        return isinstance(other, Plain) and self.size == other.size

    def __str__(self):
        return f"plain {self.size}"

    def __bool__(self):
        return bool(self.size > 0)

    def __lt__(self, other):
        check_alike(self, other)
        return self.size < other.size

    def __le__(self, other):
        check_alike(self, other)
        return self.size <= other.size

    def __add__(self, other):
        return self.resized(greater_size(self, other))

    def __sub__(self, other):
        return self.resized(lesser_size(self, other))

    def __floordiv__(self, other):
        check_divisor(other)
        return self.size // other

    def __mod__(self, other):
        check_divisor(other)
        return self.size % other

    def __xor__(self, other):
        return Position(self) ^ other

    def its_worth(self):
        """The worth of a plain heap, its size."""
        return self.size

    def each_take(self):
        """The numbers that can be taken, ascending."""
        for take in range(1, self.size + 1):
            yield take

    def lets(self, k):
        """Whether any value is a number that can be taken."""
        return is_number(k, 1, self.size)

    def takes_to(self, worth):
        """The list of the takes that leave a heap of this worth: at most one does."""
        return [self.size - worth] if worth < self.size else []

    def resized(self, size):
        """The plain pile of this size."""
        return Plain(size)


def check_alike(pile, other):
    """Raise BadBook unless other, any value, is a pile of the same class with an equal book."""
    # A Plain alone has no book.
    if not isinstance(other, Pile) or pile.book != other.book:
        raise BadBook(None)


def check_divisor(m):
    """Raise BadNumber for any value by which no size is divided."""
    if not is_number(m, 1, BIGGEST):
        raise BadNumber(m)


def greater_size(pile, k):
    """The size of the pile with k more; raises BadNumber for any value that cannot be put to a pile."""
    if not is_number(k, 0, BIGGEST):
        raise BadNumber(k)
    return pile.size + k


def lesser_size(pile, k):
    """The size of the pile behind the take of k; raises NoTake for any value that cannot be taken."""
    if not pile.lets(k):
        raise NoTake(k)
    return pile.size - k
