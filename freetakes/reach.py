"""Where a table can be reached with free rules of one modulus, heap by heap and for good."""

from math import lcm

from freetakes.bits import heaps_by_worth, heaps_of_rest
from freetakes.rules import Down, Fixed

# Ways are asked for at heaps up to this one: so great can the sizes of their rules be.
MOST_ASKED = 100


class Reach:
    """What the free rules of one modulus lead to, by a table.

    At a heap and a place below it two rules are looked at, both with the rest of the heap: the Fixed one
    with the place as its leave, and the Down one to the place.
    """

    def __init__(self, table, modulus):
        self.modulus = modulus
        self.begin = table.begin
        self.again = common_period(table, modulus)
        self.end = self.begin + self.again
        # From the heap behind less one turn on, what can be reached comes again.
        self.behind = max(int(self.end), 2 * self.begin) + self.again
        # The heaps left come again from end on, and sizes to MOST_ASKED are put to them.
        self.told = table.first_worths(self.end + MOST_ASKED + 1)
        found = heaps_by_worth(self.told)
        by_rest = [heaps_of_rest(rest, modulus, 0, len(self.told)) for rest in range(modulus)]
        self.alike = [[heaps & standing for heaps in found] for standing in by_rest]
        self.barred = [self.barred_sizes(alike) for alike in self.alike]

    def barred_sizes(self, alike):
        """By the leave, to begin, the sizes (as bits) that are barred; alike has the heaps of a rest by their worth."""
        barred = 0
        rows = []
        for left in range(self.end - 1, -1, -1):
            barred = barred | (alike[self.told[left]] >> left)
            rows.append(barred)
        return rows[:-self.begin - 2:-1]

    def is_fixed_free(self, size, rest, leave):
        """Whether the Fixed rule with these numbers is free: from begin on a greater leave frees no size."""
        return (self.barred[rest][min(int(leave), self.begin)] >> size) & 1 == 0

    def is_down_free(self, place, rest):
        """Whether the Down rule with these numbers is free."""
        return self.alike[rest][self.told[place]] >> (place + 1) == 0

    def ways_to(self, heap, worth):
        """The free ones of the rules that are looked at and lead from the heap to this worth, in the order of rules."""
        rest = heap % self.modulus
        places = [place for place in range(heap) if self.told[place] == worth]
        fixed = [place for place in places[::-1] if self.is_fixed_free(heap - place, rest, place)]
        down = [place for place in places if self.is_down_free(place, rest)]
        return [*[Fixed(heap - place, rest, self.modulus, place) for place in fixed],
                *[Down(place, rest, self.modulus) for place in down]]

    def reached(self, heap):
        """A dict of the worths that free rules lead to from the heap."""
        rest = heap % self.modulus
        found = {}
        for place in range(heap):
            if self.is_fixed_free(heap - place, rest, place) or self.is_down_free(place, rest):
                found[self.told[place]] = True
        return found

    def unreached(self, heap):
        """The least worth below that of the heap which cannot be reached there, None if there is none."""
        return first_missing(self.reached(heap), self.told[heap])

    def lasting_ways(self, heap):
        """By worth: a free rule that leads to it from all heaps, from some heap on, that come again of this one."""
        rest = heap % self.modulus
        found = {}
        for size in range(1, self.again + 1):
            # The heap that is left, or one with its worth.
            left = self.begin + (heap - size - self.begin) % self.again
            if self.is_fixed_free(size, rest, self.begin):
                found.setdefault(self.told[left], Fixed(size, rest, self.modulus, self.begin))
        for place in range(self.end):
            if self.is_down_free(place, rest):
                found.setdefault(self.told[place], Down(place, rest, self.modulus))
        return found

    def unreached_for_good(self, heap):
        """The least worth below that of the heap, from begin on, which cannot be reached for good; None without one."""
        return first_missing(self.lasting_ways(heap), self.told[heap])

    def making_rules(self):
        """The list of rules of a book with this table, if all can be reached.

        From end on the lasting ways lead to all worths that must be reached, since all of them stand there.
        """
        rules = []
        for heap in range(self.end):
            rules.extend([self.ways_to(heap, worth)[0] for worth in range(self.told[heap])])
        for heap in range(self.begin, self.end):
            lasting = self.lasting_ways(heap)
            rules.extend([lasting[worth] for worth in range(self.told[heap])])
        return rules


def common_period(table, modulus):
    """The number of heaps behind which both the worths and the rests come again."""
    return lcm(table.period, modulus)


def first_missing(found, worth):
    """The least number below the worth that is not among the found ones; None if there is none."""
    for number in range(worth):
        if number not in found:
            return number
    return None
