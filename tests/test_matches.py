"""Matches: their moves, against ones kept by hand, their rounds, and trials."""

import random

from cases import BIG, Case, no_integers
from freetakes.books import Book
from freetakes.errors import FreeError, NoPile, Nothing
from freetakes.matches import Match
from freetakes.piles import Pile, Plain
from freetakes.positions import Position
from freetakes.rules import Down, Fixed
from test_piles import ENDLESS, STEPS, plain_takes
from test_positions import behind, played, random_position, sizes_of

START = Pile(2, STEPS) ^ Plain(1)


class Hand:
    """A match that is kept by hand: its positions and its moves."""

    def __init__(self, position):
        self.positions, self.past = [position], []

    def take(self, index, k):
        self.positions.append(self.positions[-1].after((index, k)))
        self.past.append((index, k))

    def back(self):
        self.positions.pop()
        return self.past.pop()


class Odd(Exception):
    pass


class TestMatches(Case):
    def same(self, match, hand):
        self.assertEqual(match.position, hand.positions[-1])
        self.exactly(match.past, tuple(hand.past))
        self.exactly([len(match), match.mover], [len(hand.past), len(hand.past) % 2])
        for at, pile in enumerate(hand.positions[-1].piles):
            self.assertEqual(match[at], pile)

    def test_against_one_kept_by_hand(self):
        rng = random.Random(1)
        for _ in range(150):
            position = random_position(rng, 4, 9)
            match, hand = Match(position), Hand(position)
            for _ in range(12):
                self.act(rng, match, hand)
                self.same(match, hand)
            self.assertEqual(match.winner(), match.mover if played(position)(sizes_of(match.position)) else 1 - match.mover)

    def act(self, rng, match, hand):
        """One move, one taking back, or a wrong one."""
        moves = list(match.position.moves())
        deed = rng.choice(["take", "set", "back", "wrong"])
        if deed == "back":
            if hand.past:
                self.exactly(match.back(), hand.back())
            else:
                self.raised("Nothing", (), match.back)
        elif deed == "wrong":
            self.wrong(rng, match)
        elif moves:
            index, k = rng.choice(moves)
            if deed == "take":
                self.assertIs(match.take(index, k), None)
            else:
                match[index] = match[index].size - k
            hand.take(index, k)

    def wrong(self, rng, match):
        index = rng.choice([len(match.position), -1, True, None, "0", 10 ** 39])
        self.raised("NoPile", (index,), match.take, index, rng.choice([1, None]))
        self.raised("NoPile", (index,), match.__setitem__, index, rng.choice([0, None]))
        if len(match.position):
            at = rng.randrange(len(match.position))
            k = rng.choice([k for k in range(-2, 30) if k not in plain_takes(match[at])] + [None, True, 10 ** 39])
            self.raised("NoTake", (k,), match.take, at, k)
            size = k if not isinstance(k, int) or isinstance(k, bool) else match[at].size - k
            self.raised("NoTake", (size,), match.__setitem__, at, size)

    def test_wrong_values(self):
        match = Match(START)
        match.take(0, 1)
        for index in [*no_integers(), -1, 2, 10 ** 39]:
            self.raised("NoPile", (index,), match.take, index, None)
            self.raised("NoPile", (index,), match.__setitem__, index, None)
            self.raised("NoPile", (index,), lambda: match[index])
        for value in [*no_integers(), -1, 2, 3, 10 ** 39, -10 ** 39]:
            self.raised("NoTake", (value,), match.take, 0, value)
            self.raised("NoTake", (value,), match.__setitem__, 1, value)
        self.raised("NoTake", (1,), match.__setitem__, 0, 1)
        self.raised("NoTake", (0,), match.take, 0, 0)
        self.assertEqual((match.past, str(match.position)), (((0, 1),), "1 by fixed 1, fixed 2 ^ plain 1"))
        for thing in [*no_integers(), 0, [Plain(1)]]:
            if not isinstance(thing, Position):
                self.raised("NoPile", (None,), Match, thing)
        self.raised("Nothing", (), Match(START).back)
        self.assertEqual(match.back(), (0, 1))
        self.raised("Nothing", (), match.back)

    def test_properties(self):
        match = Match(position=START)
        self.assertIs(match.position, START)
        self.exactly([match.past, match.mover, len(match)], [(), 0, 0])
        for name in ("position", "past", "mover"):
            self.assertIsInstance(getattr(Match, name), property)
            with self.assertRaises(AttributeError):
                setattr(match, name, 0)
        self.assertFalse(match == Match(START))
        self.assertTrue(match == match)

    def test_great_piles(self):
        match = Match(Plain(BIG) ^ Pile(BIG, STEPS))
        self.assertEqual(next(match.rounds()), (0, BIG - 1))
        match[0] = 5
        self.assertEqual((match.past, match[0].size), (((0, BIG - 5),), 5))
        match[1] = BIG - 2
        self.assertEqual(match.back(), (1, 2))
        self.assertEqual(match.winner(), 1)

    def test_rounds_against_playing(self):
        rng = random.Random(2)
        for _ in range(120):
            match = Match(random_position(rng, 3, 6))
            wins = played(match.position)
            moves, position = [], match.position
            while list(position.moves()):
                good = [move for move in position.moves() if not wins(behind(position, move))]
                moves.append((good or list(position.moves()))[0])
                position = position.after(moves[-1])
            self.exactly(list(match.rounds()), moves)
            self.exactly(match.winner(), (match.mover + len(moves) + 1) % 2)
            self.assertEqual((match.past, len(match)), ((), 0))

    def test_rounds_begin_when_asked(self):
        match = Match(START)
        rounds = match.rounds()
        match.take(1, 1)
        self.assertEqual(next(rounds), (0, 2))
        again = match.rounds()
        self.assertEqual(next(again), (0, 2))
        match.back()
        self.assertEqual(list(rounds) + list(again), [])
        self.assertEqual(list(match.rounds()), [(0, 1), (0, 1), (1, 1)])
        self.assertEqual(list(Match(Position()).rounds()), [])

    def test_no_table(self):
        match = Match(Plain(3) ^ Pile(500, ENDLESS))
        match.take(0, 1)
        match[1] = 100
        self.raised("TooMany", ("heaps", 1000), match.winner)
        self.raised("TooMany", ("heaps", 1000), lambda: next(match.rounds()))
        self.assertEqual(match.past, ((0, 1), (1, 400)))

    def test_trials(self):
        match = Match(START)
        match.take(0, 1)
        with match.trial() as same:
            self.assertIs(same, match)
            self.assertEqual(match.back(), (0, 1))
            match.take(1, 1)
            match.take(0, 2)
            self.assertEqual(match.past, ((1, 1), (0, 2)))
        self.assertEqual((match.past, sizes_of(match.position), match.mover), (((0, 1),), (1, 1), 1))
        self.assertEqual(match.back(), (0, 1))
        self.assertEqual(match.position, START)
        self.raised("Nothing", (), match.back)

    def test_trials_that_end_in_errors(self):
        match = Match(START)
        for error in (Odd(), FreeError(), NoPile(3), KeyError("k"), Nothing()):
            with self.assertRaises(type(error)) as caught:
                with match.trial():
                    match.take(0, 2)
                    raise error
            self.assertIs(caught.exception, error)
            self.assertEqual((match.past, match.position), ((), START))
        with self.assertRaises(NoPile):
            with match.trial() as same:
                same.take(0, 2)
                same.take(5, 1)
        self.assertEqual((match.past, match.position), ((), START))

    def test_trials_that_are_left(self):
        match = Match(START)
        for k in (1, 2):
            with match.trial():
                match.take(0, k)
                continue
        for k in (1, 2):
            with match.trial():
                match.take(0, k)
                break
        self.assertEqual(match.past, ())

    def test_nested_trials(self):
        match = Match(START)
        match.take(1, 1)
        with match.trial():
            match.take(0, 1)
            with match.trial():
                match.back()
                match.back()
                match.take(0, 2)
                with self.assertRaises(Odd):
                    with match.trial():
                        match.back()
                        raise Odd()
                self.assertEqual(match.past, ((0, 2),))
            self.assertEqual(match.past, ((1, 1), (0, 1)))
            self.assertEqual(match.back(), (0, 1))
        self.assertEqual(match.past, ((1, 1),))
        self.assertEqual(sizes_of(match.position), (2, 0))

    def test_trials_begin_with_their_block(self):
        match = Match(START)
        trial = match.trial()
        match.take(0, 1)
        with trial:
            match.take(1, 1)
        self.assertEqual(match.past, ((0, 1),))

    def test_tried(self):
        match = Match(START)
        self.assertIs(match.tried(lambda held: held), match)
        self.assertIs(match.tried(lambda held: held.take(0, 2)), None)
        self.assertEqual(match.tried(lambda held: (held.take(0, 2), held.past, held.winner())[1:]), (((0, 2),), 1))
        self.assertEqual((match.past, match.position), ((), START))
        match.take(0, 1)

        def deed(held):
            held.back()
            self.assertEqual(held.tried(lambda inner: [inner.take(1, 1), len(inner)]), [None, 1])
            self.assertEqual(held.past, ())
            held.take(1, 1)
            raise Odd("again")
        with self.assertRaises(Odd):
            match.tried(deed)
        self.assertEqual(match.past, ((0, 1),))

    def test_two_matches(self):
        one, other = Match(START), Match(START)
        one.take(0, 2)
        self.assertEqual((other.past, other.position), ((), START))
        down = Match(Position(Pile(9, Book(Down(2), Fixed(3)))))
        down[0] = 2
        self.assertEqual(down.past, ((0, 7),))


if __name__ == "__main__":
    import unittest
    unittest.main()
