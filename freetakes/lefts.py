"""The heaps that a book leaves, found fast at one heap after the other."""

from freetakes.rules import Fixed, stands


def steps_of(book):
    """For each rest by the book's modulus the sizes taken, and the heaps left, at its heaps from book.start on."""
    return [steps_behind(book, rest) for rest in range(book.modulus)]


def steps_behind(book, rest):
    """The sizes that are taken, and the heaps that are left, at each heap of this rest from book.start on."""
    heap = book.start + (rest - book.start) % book.modulus
    standing = [rule for rule in book.rules if stands(rule, heap)]
    sizes = sorted(set([int(rule.size) for rule in standing if isinstance(rule, Fixed)]))
    places = sorted(set([int(rule.to) for rule in standing if not isinstance(rule, Fixed)]))
    return sizes, places


def lefts_by(book, steps, heap):
    """The heaps that the book with these steps leaves at the heap, some of them perhaps twice."""
    if heap < book.start:
        return book.lefts(heap)
    sizes, places = steps[heap % book.modulus]
    return [heap - size for size in sizes] + places
