"""Positions: piles side by side, against playing all moves through."""

import functools
import random

import oracle
from cases import BIG, Case, no_integers
from freetakes.books import Book
from freetakes.piles import Pile, Plain
from freetakes.positions import Position
from freetakes.rules import Down, Fixed
from test_piles import ENDLESS, STEPS, plain_takes, random_pile

THREE = Pile(5, STEPS) ^ Plain(1) ^ Pile(3, STEPS)


def random_position(rng, piles=3, most=6):
    return Position.of([random_pile(rng, most) for _ in range(rng.randint(0, piles))])


def takes_of(piles):
    """By pile and size the takes of that size."""
    return [[plain_takes(Plain(size) if pile.book is None else Pile(size, pile.book)) for size in range(pile.size + 1)]
            for pile in piles]


def played(position):
    """Whether who moves next wins, by the sizes, with all moves played through."""
    takes = takes_of(position.piles)

    @functools.cache
    def wins(sizes):
        for at, size in enumerate(sizes):
            for k in takes[at][size]:
                if not wins((*sizes[:at], size - k, *sizes[at + 1:])):
                    return True
        return False
    return wins


def sizes_of(position):
    return tuple(pile.size for pile in position.piles)


def behind(position, move):
    index, k = move
    sizes = list(sizes_of(position))
    sizes[index] -= k
    return tuple(sizes)


class TestPositions(Case):
    def test_against_playing(self):
        rng = random.Random(1)
        for _ in range(200):
            position = random_position(rng)
            wins = played(position)
            moves = [(at, k) for at, pile in enumerate(position.piles) for k in plain_takes(pile)]
            self.exactly(list(position.moves()), moves)
            self.assertIs(position.wins(), wins(sizes_of(position)))
            self.exactly(list(position.winning()), [move for move in moves if not wins(behind(position, move))])
            worth = 0
            for pile in position.piles:
                worth ^= pile.its_worth()
            self.exactly(position.its_worth(), worth)

    def test_beside_a_plain_pile(self):
        """The worth of a position is that of the plain pile that loses beside it."""
        rng = random.Random(2)
        for _ in range(60):
            position = random_position(rng, 2, 5)
            lost = [size for size in range(16) if not played(position ^ Plain(size))(sizes_of(position) + (size,))]
            self.assertEqual(lost, [position.its_worth()])

    def test_moves_lead_behind(self):
        rng = random.Random(3)
        for _ in range(100):
            position = random_position(rng)
            for move in position.moves():
                found = position.after(move)
                self.assertIs(type(found), Position)
                self.assertEqual(sizes_of(found), behind(position, move))
                for at, pile in enumerate(position):
                    self.assertIs(type(found[at]), type(pile))
                    self.assertIs(found[at].book, pile.book)
                    self.assertTrue(found[at] is pile or at == move[0])

    def test_great_piles(self):
        self.assertEqual(list((Plain(10 ** 20) ^ Plain(3)).winning()), [(0, 10 ** 20 - 3)])
        many = Position.of([Plain(BIG - at) for at in range(20)])
        worth = 0
        for at in range(20):
            worth ^= BIG - at
        self.exactly(many.its_worth(), worth)
        wanted = [(at, BIG - at - (worth ^ (BIG - at))) for at in range(20) if worth ^ (BIG - at) < BIG - at]
        self.assertEqual(list(many.winning()), wanted)
        for move in wanted:
            self.assertIs(many.after(move).wins(), False)
        moves = many.moves()
        self.assertEqual([next(moves) for _ in range(3)], [(0, 1), (0, 2), (0, 3)])
        mixed = Pile(BIG, STEPS) ^ Plain(BIG)
        self.assertEqual(list(mixed.winning()), [(1, BIG - 1)])
        self.assertEqual(list((Pile(BIG, Book(Down(0), Fixed(2))) ^ Pile(BIG, Book(Down(0), Fixed(2)))).winning()), [])

    def test_without_piles(self):
        none = Position()
        self.exactly([len(none), none.its_worth(), none.wins(), str(none), none.piles], [0, 0, False, "-", ()])
        self.assertEqual(list(none.moves()) + list(none.winning()) + list(none), [])
        self.assertTrue(none == Position.of([]) and none == Position.of(()))
        self.raised("NoPile", (0,), none.after, (0, 1))

    def test_piles_of_a_position(self):
        self.assertEqual([pile.size for pile in THREE], [5, 1, 3])
        self.assertIs(type(THREE.piles), tuple)
        self.assertTrue(all(one is other for one, other in zip(THREE, THREE.piles)))
        self.assertIs(THREE[2], THREE.piles[2])
        self.exactly(len(THREE), 3)
        for at in [*no_integers(), -1, 3, -3, 10 ** 39]:
            self.raised("NoPile", (at,), lambda: THREE[at])
        given = [Plain(1), Plain(2)]
        position = Position.of(given)
        given.append(Plain(3))
        self.assertEqual(len(position), 2)

    def test_errors_of_making(self):
        things = [thing for thing in [*no_integers(), 0, 3] if not isinstance(thing, Pile)]
        for thing in things:
            self.raised("NoPile", (0,), Position, thing, None)
            self.raised("NoPile", (1,), Position, Plain(1), thing, 5)
            self.raised("NoPile", (20,), Position, *[Plain(1)] * 20, thing, *[Plain(1)] * 5)
            self.raised("NoPile", (1,), Position.of, [Plain(1), thing])
        for thing in [*no_integers(), 0, 3]:
            if not isinstance(thing, (list, tuple)):
                self.raised("NoPile", (None,), Position.of, thing)
        self.raised("NoPile", (0,), Position.of, [Position()])
        for many in (19, 20):
            self.assertEqual(len(Position(*[Plain(1)] * many)), many)
        for many in (21, 22, 500):
            self.raised("TooMany", ("piles", 20), Position, *[Plain(1)] * many)
            self.raised("TooMany", ("piles", 20), Position.of, (Plain(1),) * many)
        self.exactly(Position.MOST, 20)
        self.exactly(THREE.MOST, 20)

    def test_no_table(self):
        for position in (Position(Pile(5, ENDLESS)), Plain(3) ^ Pile(0, ENDLESS), Pile(1, ENDLESS) ^ Pile(1, ENDLESS)):
            self.raised("TooMany", ("heaps", 1000), position.its_worth)
            self.raised("TooMany", ("heaps", 1000), position.wins)
            self.raised("TooMany", ("heaps", 1000), lambda: next(position.winning()))
        self.assertEqual(list((Plain(1) ^ Pile(400, ENDLESS)).moves()), [(0, 1)] + [(1, k) for k in plain_takes(Pile(400, ENDLESS))])

    def test_errors_of_moves(self):
        for move in [*no_integers(), 0, 1, (0,), (0, 1, 2), [0, 1], "01", ((0, 1),)]:
            if not isinstance(move, tuple) or len(move) != 2:
                self.raised("NoPile", (None,), THREE.after, move)
        for index in [*no_integers(), -1, 3, 10 ** 39]:
            for k in (1, None, 99):
                self.raised("NoPile", (index,), THREE.after, (index, k))
        for k in [*no_integers(), 0, -1, 3, 10 ** 39]:
            self.raised("NoTake", (k,), THREE.after, (0, k))
        self.raised("NoTake", (2,), THREE.after, (1, 2))
        self.assertEqual(THREE.after((2, 2)), Pile(5, STEPS) ^ Plain(1) ^ Pile(1, STEPS))

    def test_side_by_side(self):
        rng = random.Random(4)
        for _ in range(100):
            one, other = random_position(rng), random_position(rng)
            pile = random_pile(rng)
            self.assertEqual((one ^ other).piles, one.piles + other.piles)
            self.assertEqual((one ^ pile).piles, one.piles + (pile,))
            self.assertEqual((pile ^ one).piles, (pile,) + one.piles)
            self.assertEqual((one ^ other).its_worth(), one.its_worth() ^ other.its_worth())
        for thing in [*no_integers(), 0]:
            if not isinstance(thing, (Pile, Position)):
                self.raised("NoPile", (None,), lambda: THREE ^ thing)
        ten, eleven = Position.of([Plain(1)] * 10), Position.of([Plain(1)] * 11)
        self.assertEqual(len(ten ^ ten), 20)
        self.raised("TooMany", ("piles", 20), lambda: ten ^ eleven)
        full = ten ^ ten
        self.raised("TooMany", ("piles", 20), lambda: full ^ Plain(0))
        self.raised("TooMany", ("piles", 20), lambda: Plain(0) ^ full)
        self.raised("NoPile", (None,), lambda: full ^ None)
        held = ten
        held ^= Plain(5)
        self.assertEqual((len(held), len(ten)), (11, 10))

    def test_equal(self):
        one = Plain(1) ^ Pile(2, STEPS)
        self.assertTrue(one == Position(Plain(1), Pile(2, Book.plain(2))))
        for other in (Pile(2, STEPS) ^ Plain(1), Plain(1) ^ Pile(3, STEPS), Plain(1) ^ Pile(2, Book()), Position(Plain(1)),
                      one ^ Plain(0), Position()):
            self.assertTrue(one != other)
        for other in [*no_integers(), one.piles, list(one.piles)]:
            self.assertFalse(one == other)
        self.assertFalse(Position(Plain(1)) == Plain(1))

    def test_texts(self):
        self.exactly(str(THREE), "5 by fixed 1, fixed 2 ^ plain 1 ^ 3 by fixed 1, fixed 2")
        self.exactly(str(Position(Pile(0, Book()))), "0 by -")

    def test_looking_changes_nothing(self):
        before = str(THREE)
        moves = THREE.moves()
        next(moves)
        self.assertEqual([THREE.its_worth(), list(THREE.winning()), str(THREE.after((1, 1)))][:2], [3, [(0, 1)]])
        self.assertEqual(next(moves), (0, 2))
        self.assertEqual(str(THREE), before)


if __name__ == "__main__":
    import unittest
    unittest.main()
