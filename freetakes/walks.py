"""Walks over numbers of which some are marked, the marks coming again without end."""

from freetakes.bounds import BIGGEST


def marked_heaps(ahead, again, first):
    """The marked heaps from first on, ascending, none above the biggest one.

    ahead has the marks of the heaps 0, 1 and so on; those of again follow, and come again.
    """
    for heap in range(first, len(ahead)):
        if ahead[heap]:
            yield heap
    places = [place for place in range(len(again)) if again[place]]
    if not places:
        return
    rounds = (max(len(ahead), first) - len(ahead)) // len(again)
    base = len(ahead) + rounds * len(again)
    while base <= BIGGEST:
        for place in places:
            if first <= base + place <= BIGGEST:
                yield base + place
        base = base + len(again)
