"""The reckoning of worths of heaps, by their definition."""

from freetakes.bits import each_nth, heaps_of_rest, in_any
from freetakes.rules import Fixed
from freetakes.windows import Windows

# From when on windows cost less: what they cost ahead grows with the rules, and with the heaps up to the first one.
MANY = 1000
FOR_RULE = 8
FOR_HEAP = 2


def least_missing(worths):
    """The least integer from 0 on that is none of these worths."""
    seen = set(worths)
    worth = 0
    while worth in seen:
        worth = worth + 1
    return worth


def worths_below(book, count):
    """The list of the worths of the heaps 0 to count - 1."""
    if count < MANY or not windows_pay(book, count):
        return worths_together(book, count)
    windows = Windows(book, worths_together(book, first_window(book)))
    while len(windows.found) < count:
        windows.add_window()
    return windows.found[:count]


def windows_pay(book, count):
    """Whether so many heaps are reckoned sooner by windows than all together."""
    spare = count - MANY - FOR_RULE * len(book.rules)
    return spare >= 0 and spare >= FOR_HEAP * first_window(book)


def first_window(book):
    """The least heap from which on windows are right: see Windows."""
    places = [rule.leave if isinstance(rule, Fixed) else rule.to for rule in book.rules]
    heap = max([int(place) for place in places], default=0) + 1 + book.reach
    return heap + -heap % book.modulus


def worths_together(book, count):
    """The list of the worths of the heaps 0 to count - 1, reckoned all together.

    One worth after the other is given to all heaps that have it. So a heap that still waits for its
    worth leaves all worths that were given ahead, and has the next one unless it leaves a heap that has it.
    """
    early, later = strangers(book, count)
    found = [0] * count
    waiting = (1 << count) - 1
    worth = 0
    while waiting:
        given = 0
        for heap in heaps_apart(waiting, early, later):
            found[heap] = worth
            given = given | (1 << heap)
        waiting = waiting ^ given
        worth = worth + 1
    return found


def wins_below(book, count):
    """For each of the heaps 0 to count - 1 whether who is to move wins if whoever takes last loses.

    Lost is the least heap with a take, then always the least one with a take from which no lost heap is left.
    """
    early, later = strangers(book, count)
    taking = in_any([heaps_of_rest(rule.rest, rule.modulus, rule.start, count) for rule in book.rules])
    found = [True] * count
    for heap in heaps_apart(taking, early, later):
        found[heap] = False
    return found


def heaps_apart(waiting, early, later):
    """Those of the waiting heaps (the bits of a number) from which none of them is left.

    The least one that waits is one of them, and each one from which it is left is none; of the other
    ones again the least one is one of them, and so on.
    """
    heaps = []
    heap = -1
    many = len(early)
    turn = len(later)
    while waiting:
        step = (waiting & -waiting).bit_length()
        heap = heap + step
        heaps.append(heap)
        waiting = (waiting >> step) & (early[heap] if heap < many else later[heap % turn])
    return heaps


def strangers(book, count):
    """From which greater heaps a heap is not left: bit k stands for the heap that is k + 1 greater.

    The first list has such bits for the least heaps, up to the greatest leave and place of the book
    that is below count; the second one has them for all other heaps below count, by the rest of the
    book's modulus. Bits for heaps from count on may be wrong.
    """
    by_leave, by_place, last = rules_by_place(book)
    early = []
    later = [0] * book.modulus
    for heap in range(min(int(count), last + 1)):
        for rule in by_leave.get(heap, ()):
            for rest in range((rule.rest - rule.size) % rule.modulus, book.modulus, rule.modulus):
                later[rest] = later[rest] | (1 << (rule.size - 1))
        bits = later[heap % book.modulus]
        for rule in by_place.get(heap, ()):
            bits = bits | (each_nth(rule.modulus, count) << ((rule.rest - rule.start) % rule.modulus))
        early.append(~bits)
    return early, [~bits for bits in later]


def rules_by_place(book):
    """The Fixed rules by their leave, the Down ones by the heap that they leave, and the greatest of these heaps."""
    by_leave = {}
    by_place = {}
    last = -1
    for rule in book.rules:
        if isinstance(rule, Fixed):
            place = rule.leave
            by_leave.setdefault(place, []).append(rule)
        else:
            place = rule.to
            by_place.setdefault(place, []).append(rule)
        if last < place:
            last = place
    return by_leave, by_place, last
