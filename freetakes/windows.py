"""The worths of many heaps, by their definition, window by window.

Worths are given as in reckon.py, but to the heaps of one window after the other, so that the numbers whose bits are
heaps stay short. Here lesser heaps are higher bits: the least heap that waits is told by the length of the number.
The lowest bits are the heaps behind the window that may leave one in it, as many as the reach of the book.
"""

from freetakes.bits import each_nth
from freetakes.rules import Fixed

# Windows have a multiple of each book's modulus of heaps, so that all windows of a book are alike, and no fewer heaps
# than the reach of the book.
STEP = 60
LEAST = 240


class Windows:
    """The windows of a book, from a multiple of its modulus on; found has the worths of all heaps ahead of them.

    All rules stand from there on, and leave no heap that is below the leave of a rule.
    """

    def __init__(self, book, found):
        self.found = list(found)
        self.reach = book.reach
        self.width = max(int(LEAST), STEP * -(-book.reach // STEP))
        self.full = ones(self.width + book.reach)
        steps = steps_by_rest(book)
        # For each length of a number: the heaps that do not leave its highest one, and those that are greater.
        shifts = range(self.width)
        padding = [0] * (book.reach + 1)
        self.keep = [*padding, *[self.full ^ (steps[(self.width - 1 - k) % book.modulus] << k) for k in shifts]]
        self.below = [*padding, *[ones(book.reach + k) for k in shifts]]
        # For each worth: the heaps of any window that leave no place that has it, and the heaps of the next window
        # that, besides, leave no heap ahead of the window that has it.
        self.steady = steady_heaps(book, found, self.width + book.reach)
        self.opened = list(self.steady)
        self.close_opened(book, steps)

    def close_opened(self, book, steps):
        """Take those heaps out of opened that leave heaps ahead of the first window."""
        first = len(self.found)
        for heap in range(first - self.reach, first):
            leaving = (steps[heap % book.modulus] << (self.width - 1 + first - heap)) & self.full
            worth = self.found[heap]
            self.opened[worth] = self.opened[worth] & (self.full ^ leaving)

    def add_window(self):
        """Find the worths of the heaps of the next window."""
        stop = len(self.found) + self.width + self.reach
        self.found.extend([0] * self.width)
        waiting = self.full
        worth = 0
        while worth < len(self.opened) or waiting >> self.reach:
            if worth == len(self.opened):
                self.steady.append(self.full)
                self.opened.append(self.full)
            left = self.give(worth, self.opened[worth] & waiting, stop)
            behind = (left << self.width) & self.full
            self.opened[worth] = (behind | ones(self.width)) & self.steady[worth]
            waiting = waiting ^ ((left >> self.reach) << self.reach)
            worth = worth + 1

    def give(self, worth, heaps, stop):
        """Give the worth to those heaps of the window, among these heaps, from which none of them is left.

        Returns them and, of the heaps behind the window, those from which none of them is left.
        """
        found = self.found
        keep = self.keep
        below = self.below
        reach = self.reach
        length = heaps.bit_length()
        while length > reach:
            found[stop - length] = worth
            heaps = heaps & keep[length]
            length = (heaps & below[length]).bit_length()
        return heaps


def ones(count):
    """The number that has so many bits, all of them set."""
    return (1 << count) - 1


def steps_by_rest(book):
    """For each rest of the book's modulus the heaps that leave, by Fixed rules, a heap of this rest.

    Bit 0 stands for the heap that is greater by the reach of the book.
    """
    steps = [0] * book.modulus
    for rule in book.rules:
        if isinstance(rule, Fixed):
            for rest in range((rule.rest - rule.size) % rule.modulus, book.modulus, rule.modulus):
                steps[rest] = steps[rest] | (1 << (book.reach - rule.size))
    return steps


def steady_heaps(book, found, length):
    """For each worth found the heaps of any window that leave, by Down rules, no heap that has it."""
    steady = [ones(length)] * (max([int(worth) for worth in found]) + 1)
    for rule in book.rules:
        if not isinstance(rule, Fixed):
            worth = found[rule.to]
            standing = each_nth(rule.modulus, length) << ((book.reach - 1 - rule.rest) % rule.modulus)
            steady[worth] = steady[worth] & ~standing
    return steady
