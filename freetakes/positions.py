"""Positions: piles side by side, from which two players take by turns."""

from freetakes.anypile import AnyPile
from freetakes.bounds import is_number
from freetakes.errors import NoPile, TooMany


class Position:
    """Piles side by side, in an order."""

    MOST = 20

    def __init__(self, *piles):
        for at, pile in enumerate(piles):
            if not isinstance(pile, AnyPile):
                raise NoPile(at)
        if len(piles) > Position.MOST:
            raise TooMany("piles", Position.MOST)
        self.piles = piles

    @classmethod
    def of(cls, piles):
        """The position of the piles of a list or tuple."""
        if not isinstance(piles, (list, tuple)):
            raise NoPile(None)
        return Position(*piles)

    def __eq__(self, other):
        return isinstance(other, Position) and self.piles == other.piles

    def __str__(self):
        if not self.piles:
            return "-"
        return " ^ ".join([str(pile) for pile in self.piles])

    def __len__(self):
        return len(self.piles)

    def __iter__(self):
        return iter(self.piles)

    def __getitem__(self, at):
        if not is_number(at, 0, len(self.piles) - 1):
            raise NoPile(at)
        return self.piles[at]

    def __xor__(self, other):
        if isinstance(other, AnyPile):
            return Position(*self.piles, other)
        if not isinstance(other, Position):
            raise NoPile(None)
        return Position(*self.piles, *other.piles)

    def its_worth(self):
        """The exclusive or of the worths of the piles."""
        worth = 0
        for pile in self.piles:
            worth = worth ^ pile.its_worth()
        return worth

    def wins(self):
        """Whether who moves next can win."""
        return self.its_worth() != 0

    def moves(self):
        """All moves, by the index of the pile and then by the number that is taken."""
        for index, pile in enumerate(self.piles):
            for take in pile.each_take():
                yield (index, take)

    def winning(self):
        """The moves, in the same order, behind which the other player cannot win."""
        worth = self.its_worth()
        if worth == 0:
            return
        for index, pile in enumerate(self.piles):
            # Behind such a move this pile has the worth of all other ones together.
            for take in pile.takes_to(worth ^ pile.its_worth()):
                yield (index, take)

    def after(self, move):
        """The position behind a move."""
        if not isinstance(move, tuple) or len(move) != 2:
            raise NoPile(None)
        index, take = move
        return self.exchanged(index, self[index] - take)

    def exchanged(self, index, pile):
        """The position with this pile in the place of the one with an index."""
        return Position.of([*self.piles[:index], pile, *self.piles[index + 1:]])
