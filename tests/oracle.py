"""Slow and plain answers, straight from the definitions, that the tests hold the program against."""

import math
import random

from freetakes.books import Book
from freetakes.rules import Down, Fixed


def stands(rule, n):
    if n % rule.modulus != rule.rest:
        return False
    if isinstance(rule, Fixed):
        return n >= rule.size + rule.leave
    return n > rule.to


def left(rule, n):
    return n - rule.size if isinstance(rule, Fixed) else rule.to


def lefts(rules, n):
    return sorted({left(rule, n) for rule in rules if stands(rule, n)})


def worths(rules, count):
    """The worths of the heaps 0 to count - 1, heap by heap."""
    found = []
    for n in range(count):
        seen = {found[k] for k in lefts(rules, n)}
        found.append(min(set(range(len(seen) + 1)) - seen))
    return found


def least_form(told, begin, period):
    """The begin, period and worths of the least form of worths that come again from begin on with this period."""
    told = [told[n] if n < begin else told[begin + (n - begin) % period] for n in range(begin + 2 * period)]
    least = min(k for k in range(1, period + 1) if told[begin:begin + period] == told[begin + k:begin + k + period])
    while begin and told[begin - 1] == told[begin - 1 + least]:
        begin -= 1
    return begin, least, tuple(told[:begin + least])


def table(rules, most=30000):
    """The begin, period and worths of the least form, by the state of the last worths; None if none comes again."""
    reach = max([rule.size for rule in rules if isinstance(rule, Fixed)], default=0)
    start = max([rule.start for rule in rules], default=0)
    modulus = math.lcm(*[rule.modulus for rule in rules])
    count = max(start, reach)
    found = worths(rules, count)
    plain = list(rules)
    states = {}
    while count < most:
        state = (count % modulus, tuple(found[count - reach:count]))
        if state in states:
            return least_form(found, states[state], count - states[state])
        states[state] = count
        seen = {found[left(rule, count)] for rule in plain if stands(rule, count)}
        found.append(min(set(range(len(seen) + 1)) - seen))
        count += 1
    return None


def wins(rules, count, last_loses=False):
    """For the heaps 0 to count - 1 whether who is to move wins: by all plays, or, if last_loses, those of the other game."""
    found = []
    for n in range(count):
        behind = [found[k] for k in lefts(rules, n)]
        found.append(not all(behind) if behind else last_loses)
    return found


def last_table(rules, most=30000):
    """As table, for the truths of the game in which whoever takes last loses."""
    reach = max([rule.size for rule in rules if isinstance(rule, Fixed)], default=0)
    start = max([rule.start for rule in rules], default=0)
    modulus = math.lcm(*[rule.modulus for rule in rules])
    for count in (500, 3000, most):
        found = wins(rules, count, True)
        states = {}
        for n in range(max(start, reach), count):
            state = (n % modulus, tuple(found[n - reach:n]))
            if state in states:
                return least_form(found, states[state], n - states[state])
            states[state] = n
    return None


def needed(rules, rule, n, found):
    """The worth for which the rule is needed at the heap n, by the worths found of it and all lesser ones, or None."""
    if not stands(rule, n) or found[left(rule, n)] > found[n]:
        return None
    worth = found[left(rule, n)]
    others = [found[left(one, n)] for one in rules if stands(one, n) and place(one) != place(rule)]
    return None if worth in others else worth


def place(rule):
    """The place of a rule in the order of rules."""
    if isinstance(rule, Fixed):
        return 0, rule.size, rule.modulus, rule.rest, rule.leave
    return 1, rule.to, rule.modulus, rule.rest, 0


def many_rules(count):
    """That many unlike rules (at most 601) with the moduli 1 and 2."""
    rules = [Fixed(size, rest, 2) for size in range(1, 101) for rest in range(2)]
    rules += [Down(to) for to in range(401)]
    return rules[:count]


def random_rule(rng, moduli, size, place):
    modulus = rng.choice(moduli)
    rest = rng.randrange(modulus)
    if rng.random() < 0.2:
        return Down(rng.randint(0, place), rest, modulus)
    return Fixed(rng.randint(1, size), rest, modulus, rng.choice([0, 0, rng.randint(0, place)]))


def random_rules(rng, many, size=8, place=12):
    """Rules with a common modulus that a book may have."""
    moduli = rng.choice([[1], [1, 2], [1, 3], [2, 4], [1, 2, 3, 6], [4, 6, 1], [5], [1, 5, 2], [3, 4], [6]])
    return [random_rule(rng, moduli, size, place) for _ in range(many)]


def random_books(seed, count, most_rules=6, size=8, place=12):
    rng = random.Random(seed)
    return [Book.of(random_rules(rng, rng.randint(0, most_rules), size, place)) for _ in range(count)]
