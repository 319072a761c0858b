"""Rules: at which heaps they stand, and which heap they leave there."""

from freetakes.bounds import check_size, is_number
from freetakes.errors import BadRule, BadText, NoTake
from freetakes.words import number_of, wrong_among


class Rule:
    """The base of all rules. Each kind of rule has a start, a rest, a modulus and a rank."""

    MOST = 400
    MOST_MODULUS = 6

    @classmethod
    def read(cls, text):
        """The rule with this text, of either kind, whichever of these classes is asked."""
        if not isinstance(text, str):
            raise BadText(0, 0)
        words = text.split(" ")
        wrong = wrong_word(words)
        if wrong is not None:
            raise BadText(0, wrong)
        return rule_of(words)

    def stands_at(self, n):
        """Whether the rule stands at the heap n."""
        raise NotImplementedError("each kind of rule tells where it stands")

    def left_at(self, n):
        """The heap that the rule leaves at the heap n."""
        raise NotImplementedError("each kind of rule tells what it leaves")

    def taken_at(self, n):
        """The number that the rule takes at the heap n."""
        raise NotImplementedError("each kind of rule tells what it takes")


class Rested(Rule):
    """The base of the rules with a rest and a modulus."""

    def __init__(self, rest, modulus):
        if not is_number(modulus, 1, Rule.MOST_MODULUS):
            raise BadRule("modulus")
        if not is_number(rest, 0, modulus - 1):
            raise BadRule("rest")
        self.rest = rest
        self.modulus = modulus


class Sized(Rule):
    """The base of the rules with a size and a leave."""

    def __init__(self, size, leave):
        if not is_number(size, 1, Rule.MOST):
            raise BadRule("size")
        if not is_number(leave, 0, Rule.MOST):
            raise BadRule("leave")
        self.size = size
        self.leave = leave


class Fixed(Sized, Rested):
    """Takes size at each heap of its rest from which at least leave is left."""

    def __init__(self, size, rest=0, modulus=1, leave=0):
        Sized.__init__(self, size, leave)
        Rested.__init__(self, rest, modulus)
        self.start = size + leave
        self.rank = rank_of(0, size, modulus, rest, leave)

    def __eq__(self, other):
        return isinstance(other, Fixed) and self.rank == other.rank

    def __str__(self):
        return f"fixed {self.size}{rest_text(self)}{leave_text(self)}"

    def stands_at(self, n):
        """Whether the rule stands at the heap n."""
        check_size(n)
        return stands(self, n)

    def left_at(self, n):
        """The heap that the rule leaves at the heap n."""
        check_stands(self, n)
        return self.left_from(n)

    def taken_at(self, n):
        """The number that the rule takes at the heap n."""
        check_stands(self, n)
        return self.size

    def left_from(self, heap):
        """left_at of a heap at which the rule is known to stand."""
        return heap - self.size

    def leaving(self, leave):
        """The same rule with another leave."""
        return Fixed(self.size, self.rest, self.modulus, leave)


class Down(Rested):
    """Leaves the heap to, from each greater heap of its rest."""

    def __init__(self, to, rest=0, modulus=1):
        if not is_number(to, 0, Rule.MOST):
            raise BadRule("to")
        Rested.__init__(self, rest, modulus)
        self.to = to
        self.start = to + 1
        self.rank = rank_of(1, to, modulus, rest, 0)

    def __eq__(self, other):
        return isinstance(other, Down) and self.rank == other.rank

    def __str__(self):
        return f"down {self.to}{rest_text(self)}"

    def stands_at(self, n):
        """Whether the rule stands at the heap n."""
        check_size(n)
        return stands(self, n)

    def left_at(self, n):
        """The heap that the rule leaves at the heap n."""
        check_stands(self, n)
        return self.to

    def taken_at(self, n):
        """The number that the rule takes at the heap n."""
        check_stands(self, n)
        return n - self.to

    def left_from(self, heap):
        """left_at of a heap at which the rule is known to stand: the same one at all of them."""
        return self.to


def stands(rule, heap):
    """Whether the rule stands at what is known to be a heap."""
    return heap >= rule.start and heap % rule.modulus == rule.rest


def check_stands(rule, n):
    """Raise BadSize for any value n that is no heap, then NoTake if the rule does not stand there."""
    if not rule.stands_at(n):
        raise NoTake(n)


def rank_of(kind, number, modulus, rest, leave):
    """One number for all numbers of a rule: equal rules alone have equal ones, lesser rules lesser ones."""
    rank = kind
    for part in (number, modulus, rest, leave):
        rank = rank * (Rule.MOST + 1) + part
    return rank


def in_order(rules):
    """The list of these rules in the order of rules, each one once."""
    by_rank = {rule.rank: rule for rule in rules}
    return [by_rank[rank] for rank in sorted([int(rank) for rank in by_rank])]


def rest_text(rule):
    """What str writes of the rest."""
    if rule.modulus == 1:
        return ""
    return f" rest {rule.rest} of {rule.modulus}"


def leave_text(rule):
    """What str writes of the leave."""
    if rule.leave == 0:
        return ""
    return f" leave {rule.leave}"


def least_modulus(words):
    """The least modulus that can stand behind the rest in these words of a rule."""
    rest = number_of(words[3], 0, Rule.MOST_MODULUS - 1) if len(words) > 3 else None
    return 2 if rest is None else max(2, rest + 1)


def rule_slots(words):
    """The slots of a rule that has these words, as far as they are right."""
    fixed = words[:1] == ["fixed"]
    slots = [("fixed", "down"), (1 if fixed else 0, Rule.MOST)]
    if words[2:3] == ["rest"]:
        modulus = (least_modulus(words), Rule.MOST_MODULUS)
        slots = [*slots, ("rest",), (0, Rule.MOST_MODULUS - 1), ("of",), modulus]
    if fixed and words[len(slots):len(slots) + 1] == ["leave"]:
        slots = [*slots, ("leave",), (1, Rule.MOST)]
    return slots


def wrong_word(words):
    """The index of the first of these words that cannot stand in a rule, or their number if one lacks; else None."""
    return wrong_among(words, rule_slots(words))


def rule_of(words):
    """The rule that has these words, which are right."""
    rest, modulus = (int(words[3]), int(words[5])) if words[2:3] == ["rest"] else (0, 1)
    if words[0] == "down":
        return Down(int(words[1]), rest, modulus)
    leave = int(words[-1]) if words[-2] == "leave" else 0
    return Fixed(int(words[1]), rest, modulus, leave)
