"""Great books and tables are answered promptly: the limits are many times what is needed."""

import random
import time
import unittest

import oracle
from freetakes.books import Book
from freetakes.compare import beside, compare, parted_alone, same_takes, shows_parted
from freetakes.desk import Desk
from freetakes.errors import FreeError, TooMany
from freetakes.free import bars, free, free_among, least_leave
from freetakes.free_sizes import free_sizes, shows_sizes
from freetakes.greatest import Greatest, given_back
from freetakes.keeper import Keeper
from freetakes.look_free import shows_barred, shows_free
from freetakes.look_tables import shows_table
from freetakes.losing import last_loses, shows_last
from freetakes.made import made, moduli_of, shows_made, shows_unmade, ways
from freetakes.matches import Match
from freetakes.needless import fewest, is_least, least_book, needed_at, needless, serving, shows_needed
from freetakes.piles import Pile, Plain
from freetakes.positions import Position
from freetakes.reader import read
from freetakes.rules import Down, Fixed
from freetakes.sizes import Sizes
from freetakes.tables import Table, table_of, worths
from freetakes.texts import write_book, write_position, write_sizes, write_table
from freetakes.winners import keeps_winners, lost_heaps

LIMIT = 3


def great_books():
    rng = random.Random(1)
    books = [Book.plain(400)]
    for moduli in ([1], [1, 2, 3, 4, 6], [4, 6], [5, 2]):
        for size in (12, 400):
            rules = [oracle.random_rule(rng, moduli, size, 400) for _ in range(400)]
            books.append(Book.of(rules))
    return books


def great_table(seed):
    rng = random.Random(seed)
    return Table(1000, 1000, [0] + [rng.randrange(200) for _ in range(1999)])


class Speed(unittest.TestCase):
    def prompt(self, call, *args):
        begin = time.process_time()
        try:
            found = call(*args)
        except TooMany:
            found = None
        self.assertLess(time.process_time() - begin, LIMIT, (call, args))
        return found

    def test_books(self):
        for book in great_books():
            table = self.prompt(table_of, book)
            if table is not None:
                self.assertTrue(self.prompt(shows_table, book, table))
            self.prompt(worths, book, 20000)
            self.prompt(same_takes, book, book)
            self.prompt(compare, book, book)
            self.prompt(shows_parted, book, Book.plain(400), 20000, 1, 2)
            self.prompt(lambda: [book(n) for n in range(2000)])
            self.prompt(lambda: [(book.takes(10 ** 30 - n), book.lefts(n)) for n in range(100)])

    def test_tables(self):
        one, other = great_table(1), great_table(2)
        self.prompt(lambda: [one[10 ** 30 - n] for n in range(20000)])
        self.prompt(lambda: [next(one.heaps_of(7, 10 ** k)) for k in range(30)])
        self.prompt(lambda: [free(one, rule) for rule in great_books()[0].rules])
        self.prompt(lambda: [list(bars(one, Fixed(size), 10 ** 30)) for size in range(1, 401)])
        self.prompt(lambda: [least_leave(one, size) for size in range(1, 401)])
        self.prompt(free_among, one, *great_books()[1].rules)
        for call in (compare, parted_alone, beside):
            self.prompt(call, one, other)
            self.prompt(call, one, one)

    def test_size_sets(self):
        rng = random.Random(3)
        rows = [[rng.random() < 0.5 for _ in range(500)] for _ in range(4)]
        one, other = Sizes(rows[0], rows[1]), Sizes(rows[2], rows[3])
        self.prompt(lambda: [(one & other, one | other, one - other, one ^ other, ~one, one.is_part_of(other)) for _ in range(100)])
        self.prompt(lambda: [Sizes.read(str(one)) for _ in range(100)])
        self.prompt(lambda: [(one.count_to(10 ** k), one.first_from(10 ** k), 10 ** k + 1 in one) for k in range(31) for _ in range(100)])
        walk = one.walk(10 ** 30)
        self.prompt(lambda: [next(walk) for _ in range(100000)])
        rare = Sizes([False] * 500, [False] * 499 + [True]).walk(10 ** 30)
        self.prompt(lambda: [next(rare) for _ in range(10000)])

    def test_free_sizes(self):
        rng = random.Random(4)
        for begin, period, modulus in ((399, 1, 1), (200, 200, 2), (0, 400, 5), (340, 60, 6), (100, 100, 3)):
            table = Table(begin, period, [0] + [rng.randrange(401) for _ in range(begin + period - 1)])
            for leave in (0, 400):
                sizes = self.prompt(lambda: [free_sizes(table, 1 % modulus, modulus, leave) for _ in range(100)])[0]
                self.assertTrue(self.prompt(shows_sizes, table, 1 % modulus, modulus, leave, sizes))

    def test_greatest_books(self):
        wide = Greatest(great_table(5))
        self.prompt(lambda: [(wide.many(10 ** k), wide.lets(10 ** k, 0), next(wide.each_take(10 ** k))) for k in range(31)])
        self.prompt(lambda: [wide.has(book) for book in great_books()])
        self.prompt(given_back, wide, 300)
        # All heaps but two have one worth, so that the takes lie far from one another.
        lone = Greatest(Table(1000, 1000, [0] * 500 + [1] * 2 + [0] * 1498))
        self.assertEqual(self.prompt(lambda: list(lone.each_take(10 ** 30))), [10 ** 30 - 501, 10 ** 30 - 500])

    def test_looking(self):
        book = Book.plain(396) | Fixed(1, 0, 4) | Fixed(2, 0, 3)
        table = table_of(book)
        self.assertTrue(self.prompt(shows_free, book, Fixed(398), table))
        self.assertTrue(self.prompt(shows_barred, book, Down(0), table, 397, 0))

    def test_needed_rules(self):
        books = [Book.plain(396) | Fixed(1, 0, 4) | Fixed(2, 0, 3), Book(Fixed(1), *[Fixed(400, rest, 6) for rest in range(6)]), *great_books()]
        for book in books:
            for call in (needless, is_least, least_book, fewest):
                self.prompt(call, book)
            self.prompt(needed_at, book, book.rules[-1])
            self.prompt(serving, book, 10 ** 30, 0)
            self.prompt(shows_needed, book, book.rules[0], 20000, 0)
            last = self.prompt(last_loses, book)
            if last is not None:
                self.assertTrue(self.prompt(shows_last, book, last))

    def test_small_books(self):
        rng = random.Random(6)
        small = []
        while len(small) < 100:
            book = Book.of(oracle.random_rules(rng, rng.randint(0, 6), 12, 12))
            rows = oracle.table(book.rules)
            if rows is not None and sum(rows[:2]) <= 40:
                small.append(book)
        for call in (needless, is_least, least_book, fewest, last_loses):
            begin = time.process_time()
            for book in small:
                call(book)
            self.assertLess((time.process_time() - begin) / len(small), 0.002, call)

    def test_winners(self):
        table = great_table(7)
        self.prompt(lambda: [keeps_winners(table, rule) for book in great_books()[:2] for rule in book.rules])
        self.prompt(lambda: [next(lost_heaps(table, 10 ** k)) for k in range(30)])

    def test_made_tables(self):
        rng = random.Random(8)
        tables = [Table(0, 30, [0, 1, 2, 3, 4, 5] + [6] * 24), Table(29, 1, [0, 1, 2, 3, 4, 5] + [6] * 24), Table(0, 7, list(range(7))),
                  Table(2, 7, [0, 1, 0, 1, 2, 3, 4, 5, 6])]
        for begin in (0, 10, 20, 28):
            tables.append(Table(begin, 30 - begin, [0] + [rng.randint(0, 6) for _ in range(28)] + [5]))
        for table in tables:
            self.prompt(moduli_of, table)
            for modulus in range(1, 7):
                found = self.prompt(made, table, modulus)
                if found:
                    self.assertTrue(self.prompt(shows_made, table, modulus, found.book))
                self.prompt(lambda: [shows_unmade(table, modulus, kind, heap, 0) for kind in ("heap", "class") for heap in range(130)])
                self.prompt(lambda: [ways(table, modulus, heap, 0) for heap in range(1, 101) if table[heap]])
        self.assertTrue(self.prompt(shows_made, Book.plain(400).as_table(), 1, Book.plain(400)))

    def test_positions(self):
        far = Book.plain(399) | Down(0)
        piles = [Pile(10 ** 30 - 401 * at, far) for at in range(10)] + [Plain(10 ** 30 - 7 ** at) for at in range(10)]
        position = self.prompt(Position.of, piles)
        self.assertTrue(self.prompt(position.wins))
        moves = self.prompt(lambda: list(position.winning()))
        self.assertFalse(self.prompt(lambda: [move for move in moves if position.after(move).wins()]))
        every = position.moves()
        self.prompt(lambda: [next(every) for _ in range(100000)])
        self.prompt(lambda: [(pile // 7, pile % 7, pile.lets(10 ** 29), pile - 1, bool(pile)) for pile in piles for _ in range(100)])

    def test_matches(self):
        match = Match(Position.of([Plain(10 ** 30)] * 10 + [Pile(10 ** 30, Book.plain(400))] * 9 + [Plain(3)]))
        rounds = match.rounds()
        self.prompt(lambda: [next(rounds) for _ in range(50)])
        self.prompt(lambda: [match.take(at, 1) for at in range(20) for _ in range(3)])
        match[0] = 5
        self.prompt(lambda: [match.tried(lambda held: [held.back() for _ in range(61)]) for _ in range(50)])
        self.assertEqual(len(match), 61)

    def tried(self, call, *args):
        """What the call returns, None if it raises an error of the package."""
        try:
            return call(*args)
        except FreeError:
            return None

    def test_keepers(self):
        few = Keeper(Book.plain(100), limit=400)
        self.assertEqual(self.prompt(lambda: len([size for size in range(1, 401) if self.tried(few.add, Fixed(size))])), 297)
        self.assertEqual(len(self.prompt(few.thin)), 297)
        few.undo()
        self.prompt(lambda: [self.tried(few.drop, rule) for rule in few.now.rules])
        self.prompt(lambda: [few.undo() for _ in few.log])
        self.assertEqual(few.now, Book.plain(100))
        full = Keeper(Book.plain(400), limit=400)
        self.prompt(lambda: [self.tried(full.drop, rule) for rule in full.now.rules])
        self.prompt(lambda: [self.tried(full.exchange, rule, Fixed(400, leave=1)) for rule in full.now.rules])
        self.prompt(full.thin)
        long = Keeper(Book(Fixed(1), *[Fixed(400, rest, 6) for rest in range(6)]), limit=400)
        self.prompt(lambda: [self.tried(long.add, Fixed(size, rest, 6)) for size in range(1, 101) for rest in range(6)])
        self.prompt(lambda: [self.tried(long.fill, 400, rest, 6) for rest in range(6)])
        self.prompt(lambda: [self.tried(long.drop, rule) for rule in long.now.rules])
        self.prompt(long.thin)

    def test_texts(self):
        rng = random.Random(9)
        book = Book.of(oracle.many_rules(400))
        sizes = Sizes([rng.random() < 0.5 for _ in range(500)], [rng.random() < 0.5 for _ in range(500)])
        position = Position.of([Pile(10 ** 30, book)] * 20)
        for thing, write in ((book, write_book), (great_table(10), write_table), (sizes, write_sizes), (position, write_position)):
            self.assertEqual(self.prompt(lambda: read(write(thing))), thing)
        self.prompt(lambda: [self.tried(read, text * 300) for text in ("book\n", "table 1000 1000\n0 ", "sizes\n+|", "position\nplain 1\n")])

    def test_desks(self):
        desk = Desk()
        self.prompt(desk.run, *[f"add fixed {size}" for size in range(1, 401)], *["pile 1000000", "plain 1000000"] * 10)
        self.prompt(desk.run, *[f"take {at} {k}" for at in range(20) for k in range(1, 31)])
        self.prompt(desk.run, *["wins", "winning", "table", "sizes 0 1", "worth 1000000", "free down 0"] * 100)
        self.prompt(desk.run, *["needless", "least", "book", "piles"] * 3)
        self.prompt(desk.run, *["back"] * 1000)
        endless = Desk()
        endless.run("add fixed 400", "add fixed 399", "add fixed 7 rest 0 of 4", "add fixed 1 rest 1 of 3", "pile 1000000")
        self.assertEqual(set(self.prompt(endless.run, *["wins", "worth 3", "needless", "free fixed 1"] * 100)), {"refused TooMany"})


if __name__ == "__main__":
    unittest.main()
