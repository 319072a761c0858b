"""Walks over numbers of which some are marked, the marks coming again without end."""

from freetakes.bounds import BIGGEST


def marked_numbers(ahead, again, first):
    """The marked numbers from first on, ascending, without a bound.

    ahead has the marks of the numbers 0, 1 and so on; those of again follow, and come again.
    """
    for number in range(first, len(ahead)):
        if ahead[number]:
            yield number
    places = [place for place in range(len(again)) if again[place]]
    if not places:
        return
    rounds = (max(len(ahead), first) - len(ahead)) // len(again)
    base = len(ahead) + rounds * len(again)
    while True:
        for place in places:
            if first <= base + place:
                yield base + place
        base = base + len(again)


def marked_heaps(ahead, again, first):
    """The marked numbers from first on, ascending, none above the biggest heap."""
    for heap in marked_numbers(ahead, again, first):
        if heap > BIGGEST:
            return
        yield heap
