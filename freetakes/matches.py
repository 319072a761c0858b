"""Matches: positions with the moves that were made."""

from freetakes.bounds import is_number
from freetakes.errors import NoPile, Nothing, NoTake
from freetakes.positions import Position
from freetakes.trials import Trial


class Match:
    """A match that begins at a position. Its state is the position as it is now and the moves that were made."""

    def __init__(self, position):
        if not isinstance(position, Position):
            raise NoPile(None)
        self.state = (position, ())

    @property
    def position(self):
        """The position as it stands now."""
        return self.state[0]

    @property
    def past(self):
        """The tuple of the moves that were made, in order."""
        return self.state[1]

    @property
    def mover(self):
        """Who moves next: 0, who began, or 1."""
        return len(self.state[1]) & 1

    def __len__(self):
        return len(self.past)

    def __getitem__(self, at):
        return self.position[at]

    def __setitem__(self, at, worth):
        # What is assigned is the size that the move leaves.
        pile = self.position[at]
        if not is_number(worth, 0, pile.size - 1) or not pile.lets(pile.size - worth):
            raise NoTake(worth)
        self.take(at, pile.size - worth)

    def __iter__(self):
        raise TypeError("a match is not gone through; its position and its past are")

    def take(self, index, k):
        """Make a move: take k from the pile with this index."""
        move = (index, k)
        self.state = (self.position.after(move), self.past + (move,))

    def back(self):
        """Take the last move back, and return it."""
        if not self.past:
            raise Nothing()
        move = self.past[-1]
        index, k = move
        before = self.position.exchanged(index, self.position[index] + k)
        self.state = (before, self.past[:-1])
        return move

    def winner(self):
        """Who wins if both play as well as they can."""
        return self.mover if self.position.wins() else 1 - self.mover

    def rounds(self):
        """The moves of a play from here to its end, the first winning one or, without such a one, the first one."""
        position = self.position
        move = move_at(position)
        while move is not None:
            yield move
            position = position.after(move)
            move = move_at(position)

    def trial(self):
        """A block behind which the match is as it was at its begin."""
        return Trial(self)

    def tried(self, deed):
        """What deed, called with the match, returns in such a block."""
        with self.trial() as same:
            return deed(same)


def move_at(position):
    """The first winning move, or the first move if there is no winning one, or None if there is no move."""
    for move in position.winning():
        return move
    for move in position.moves():
        return move
    return None
