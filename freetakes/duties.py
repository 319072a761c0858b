"""Which worths the rules of a book serve, at which heaps: heaps are the bits of numbers, as far as they decide."""

from freetakes.bits import heaps_by_worth, heaps_of_rest, in_any
from freetakes.rules import Fixed, stands
from freetakes.search import end_of_looking


class Duties:
    """What the rules of a book can do for the worths of its table. A list by worth has all worths but the greatest.

    Behind the heaps that are looked at, all rules serve what they serve at earlier ones.
    """

    def __init__(self, book, table):
        self.end = end_of_looking(book, table.begin, table.period)
        self.told = table.first_worths(self.end)
        found = heaps_by_worth(self.told)
        self.heaps = found[:-1]
        self.above = greater_ones(found)

    def served_by(self, rule):
        """By worth: the heaps of a greater worth at which the rule serves it."""
        standing = heaps_of_rest(rule.rest, rule.modulus, rule.start, self.end)
        if isinstance(rule, Fixed):
            size = rule.size
            return [(heaps << size) & standing & above for heaps, above in zip(self.heaps, self.above)]
        left = self.told[rule.to]
        return [standing & above if worth == left else 0 for worth, above in enumerate(self.above)]


def greater_ones(found):
    """By worth: the heaps of a greater worth, found having the heaps of each worth."""
    above = []
    greater = 0
    for heaps in found[:0:-1]:
        greater = greater | heaps
        above.append(greater)
    return above[::-1]


def needed_place(book, table, rule):
    """The least heap at which the rule of the book is needed and the worth that it serves there, or None."""
    end = end_of_looking(book, table.begin, table.period)
    told = table.first_worths(end)
    others = [other for other in book.rules if other != rule]
    first = rule.start + (rule.rest - rule.start) % rule.modulus
    alone = [heap for heap in range(first, end, rule.modulus) if told[rule.left_from(heap)] < told[heap]]
    # Whoever serves at the first heap that is left is asked for all the other ones.
    while alone:
        worth = told[rule.left_from(alone[0])]
        server = server_at(others, told, alone[0], worth)
        if server is None:
            return alone[0], worth
        alone = [heap for heap in alone if not serves(server, told, heap, told[rule.left_from(heap)])]
    return None


def server_at(rules, told, heap, worth):
    """The first of the rules that leaves a heap of this worth at the heap; None if none does."""
    for rule in rules:
        if serves(rule, told, heap, worth):
            return rule
    return None


def serves(rule, told, heap, worth):
    """Whether the rule leaves a heap of this worth at the heap."""
    return stands(rule, heap) and told[rule.left_from(heap)] == worth


def needed_places(book, table):
    """needed_place of each rule of the book."""
    duties = Duties(book, table)
    once = [0 for _ in duties.heaps]
    twice = [0 for _ in duties.heaps]
    for rule in book.rules:
        served = duties.served_by(rule)
        twice = [more | (one & heaps) for more, one, heaps in zip(twice, once, served)]
        once = [one | heaps for one, heaps in zip(once, served)]
    alone = [one ^ more for one, more in zip(once, twice)]
    return [least_place(duties.served_by(rule), alone) for rule in book.rules]


def least_place(served, alone):
    """The least heap that is in both lists for one worth, and this worth; None if there is none."""
    found = [heaps & lone for heaps, lone in zip(served, alone)]
    needed = in_any(found)
    least = needed & -needed
    for worth, heaps in enumerate(found):
        if heaps & least:
            return least.bit_length() - 1, worth
    return None


def kept_rules(book, table):
    """The rules that stay if each one, from the last one on, that is needless among those left is left out.

    Such a rule is needed just where neither a rule ahead of it nor a kept one behind it serves what it serves.
    """
    duties = Duties(book, table)
    firsts = first_heaps(book, duties)
    done = [0 for _ in duties.heaps]
    kept = []
    for rule, heaps in list(zip(book.rules, firsts))[::-1]:
        served = duties.served_by(rule)
        if in_any([heaps & mine & ~others for mine, others in zip(served, done)]):
            kept.append(rule)
            done = [mine | others for mine, others in zip(served, done)]
    return kept[::-1]


def first_heaps(book, duties):
    """For each rule the heaps at which it serves a worth that no rule ahead of it serves there."""
    seen = [0 for _ in duties.heaps]
    firsts = []
    for rule in book.rules:
        served = duties.served_by(rule)
        firsts.append(in_any([mine & ~others for mine, others in zip(served, seen)]))
        seen = [mine | others for mine, others in zip(served, seen)]
    return firsts


def fewest_rules(book, table):
    """The fewest rules of the book, by their indexes the least ones, that serve all that must be served."""
    duties = Duties(book, table)
    served = [duties.served_by(rule) for rule in book.rules]
    rows = [()]
    while True:
        for row in rows:
            if serve_all(duties.above, [served[at] for at in row]):
                return [book.rules[at] for at in row]
        rows = longer_rows(rows, len(book.rules))


def longer_rows(rows, many):
    """The ascending rows of indexes below many that are one longer than these, which are all of their length."""
    return [(*row, at) for row in rows for at in range(row[-1] + 1 if row else 0, many)]


def serve_all(above, served):
    """Whether these rules, told by what they serve, serve each worth at all heaps of greater worths."""
    missing = above
    for mine in served:
        missing = [heaps & ~others for heaps, others in zip(missing, mine)]
    return not any(missing)
