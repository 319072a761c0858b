"""What the document states as facts, each over several modules, for drawn small books."""

import random
import unittest

import oracle
from cases import Case
from freetakes.books import Book
from freetakes.compare import Parted, beside, compare, parted_alone, shows_parted
from freetakes.desk import Desk
from freetakes.errors import FreeError
from freetakes.free import Barred, Free, free, free_among, is_free
from freetakes.free_sizes import free_sizes
from freetakes.greatest import Greatest, given_back
from freetakes.keeper import Keeper
from freetakes.look_free import shows_barred, shows_free
from freetakes.look_tables import shows_table
from freetakes.losing import last_loses, saving_takes
from freetakes.made import made, moduli_of, shows_made
from freetakes.matches import Match
from freetakes.needless import fewest, is_least, least_book, needed_at, needless, shows_needed
from freetakes.piles import Pile, Plain
from freetakes.positions import Position
from freetakes.reader import read
from freetakes.rules import Down, Fixed
from freetakes.tables import table_of, worths
from freetakes.texts import write_book, write_position, write_sizes, write_table
from freetakes.winners import keeps_winners, lost_heaps


def books(seed, count):
    """Drawn books whose worths come again within 60 heaps, and whose moduli leave room for other ones."""
    rng = random.Random(seed)
    found = []
    while len(found) < count:
        moduli = rng.choice([[1], [1, 2], [3], [1, 3], [2], [4], [6]])
        book = Book.of([oracle.random_rule(rng, moduli, 6, 8) for _ in range(rng.randint(0, 5))])
        rows = oracle.table(book.rules)
        if sum(rows[:2]) <= 60:
            found.append(book)
    return found


def further_rules(rng, book, count=12):
    """Drawn rules that may stand in the book with its own ones."""
    moduli = [m for m in (1, 2, 3, 4, 6) if 12 % m == 0]
    return [oracle.random_rule(rng, moduli, 14, 8) for _ in range(count)]


class TestWhole(Case):
    def test_worths_tell_who_wins(self):
        """Point 4, over tables, losing, positions and matches."""
        for book in books(1, 40):
            table = table_of(book)
            wins = oracle.wins(book.rules, 80)
            self.assertEqual([table[n] != 0 for n in range(80)], wins)
            self.assertEqual([Position(Pile(n, book)).wins() for n in range(80)], wins)
            self.assertEqual([Match(Position(Pile(n, book))).winner() == 0 for n in range(80)], wins)
            lost = [n for n in range(80) if not wins[n]]
            heaps = lost_heaps(table)
            self.assertEqual([n for n, _ in zip(heaps, lost)], lost)
            desk = Desk()
            desk.run(*[f"add {rule}" for rule in book.rules], "pile 79")
            self.assertEqual(desk("wins"), "yes" if wins[79] else "no")

    def test_heaps_of_one_worth_stand_for_one_another(self):
        """Point 4: beside whatever lies, a heap may be replaced by another one of its worth, also by a plain one."""
        rng = random.Random(2)
        held = books(3, 30)
        for book in held:
            for n in (0, 3, 10, 55):
                worth = book(n)
                beside_it = Position.of([Pile(rng.randint(0, 40), rng.choice(held)) for _ in range(3)] + [Plain(rng.randint(0, 4))])
                for other in (Plain(worth), Pile(next(table_of(book).heaps_of(worth, 20)), book) if worth in worths(book, 200)[100:] else Plain(worth)):
                    self.assertEqual((beside_it ^ other).wins(), (beside_it ^ Pile(n, book)).wins())
                self.assertFalse((Pile(n, book) ^ Plain(worth)).wins())
                self.assertTrue((Pile(n, book) ^ Plain(worth + 1)).wins())

    def test_the_plain_pile_that_parts_two_books(self):
        """Points 4 and 6, over compare and positions."""
        held = books(4, 40)
        parted = 0
        for one, other in zip(held, held[1:]):
            found = beside(one, other)
            if found is not None:
                heap, plain = found
                parted += 1
                self.assertNotEqual((Pile(heap, one) ^ Plain(plain)).wins(), (Pile(heap, other) ^ Plain(plain)).wins())
                for less in range(heap):
                    self.assertEqual((Pile(less, one) ^ Plain(plain)).wins(), (Pile(less, other) ^ Plain(plain)).wins())
                answer = compare(one, other)
                self.assertTrue(shows_parted(one, other, heap, answer.first, answer.second))
        self.assertGreater(parted, 20)

    def test_free_rules_change_no_worth(self):
        """Point 6: a rule is free exactly if the book with it has the same table."""
        rng = random.Random(5)
        seen = {True: 0, False: 0}
        for book in books(6, 60):
            table = table_of(book)
            for rule in further_rules(rng, book):
                found = free(table, rule)
                more = book | rule
                seen[bool(found)] += 1
                self.assertEqual(bool(found), shows_table(more, table))
                self.assertEqual(found == Free(rule), shows_free(book, rule, table))
                self.assertEqual(bool(found), rule in Greatest(table))
                answer = compare(book, more)
                self.assertEqual(bool(answer), bool(found))
                if not found:
                    self.assertEqual(found, Barred(rule, answer.heap, rule.left_at(answer.heap)))
                    self.assertTrue(shows_barred(book, rule, table, found.heap, found.left))
                    self.assertGreater(answer.second, answer.first)
            self.assertEqual(free_among(table, *book.rules), book.rules)
        self.assertGreater(min(seen.values()), 80)

    def test_all_free_rules_together_change_nothing(self):
        """Points 6 and 7, over free, free_sizes, keepers and the greatest book."""
        for book in books(7, 30):
            table = table_of(book)
            rules = [Fixed(size, rest, 2, leave) for size in range(1, 25) for rest in (0, 1) for leave in (0, 3)]
            rules += [Down(to, rest, 2) for to in range(12) for rest in (0, 1)]
            every = book | Book.of(list(free_among(table, *rules)))
            self.assertEqual(table_of(every), table)
            self.assertTrue(compare(book, every))
            self.assertTrue(Greatest(table).has(every))
            keeper = Keeper(book, limit=400)
            new = keeper.fill(60)
            sizes = free_sizes(table)
            self.assertEqual([rule.size for rule in new], [t for t in range(1, 61) if t in sizes and Fixed(t) not in book])
            self.assertEqual(table_of(keeper.now), table)
            self.assertEqual(table_of(least_book(every)), table)

    def test_the_greatest_book(self):
        """Point 7: it has the worths of the table, and is the same for books with the same worths alone."""
        held = books(8, 40)
        for book in held:
            wide = Greatest(table_of(book))
            self.assertEqual(given_back(wide, 120), worths(book, 120))
            self.assertTrue(wide.has(book) and wide.has(least_book(book)))
            for n in (0, 5, 37):
                takes = list(wide.each_take(n))
                self.assertEqual(len(takes), wide.many(n))
                self.assertTrue(set(book.takes(n)) <= set(takes))
            for other in held[:15]:
                self.assertEqual(Greatest(table_of(other)) == wide, bool(compare(book, other)))

    def test_needless_rules(self):
        """Point 8: without a rule the worths stay exactly if it is needless."""
        seen = {True: 0, False: 0}
        for book in books(9, 60):
            left_out = needless(book)
            for rule in book.rules:
                place = needed_at(book, rule)
                answer = compare(book, book - rule)
                seen[bool(answer)] += 1
                self.assertEqual(bool(answer), place is None)
                self.assertEqual(bool(answer), rule in left_out)
                if place is not None:
                    self.assertEqual(answer, Parted(place[0], book(place[0]), place[1]))
                    self.assertTrue(shows_needed(book, rule, *place))
                    self.assertTrue(shows_parted(book, book - rule, place[0], book(place[0]), place[1]))
            for less in (least_book(book), fewest(book)):
                self.assertTrue(less.is_part_of(book) and is_least(less) and shows_table(less, table_of(book)))
        self.assertGreater(min(seen.values()), 20)

    def test_made_tables(self):
        """Point 9: the table of a book of one modulus is made with it, and what is made has the table."""
        rng = random.Random(10)
        for modulus in range(1, 7):
            many = 0
            while many < 8:
                book = Book.of([oracle.random_rule(rng, [modulus], 4, 5) for _ in range(rng.randint(1, 4))])
                table = table_of(book)
                try:
                    found = made(table, modulus)
                except FreeError:
                    continue
                many += 1
                self.assertTrue(found and shows_made(table, modulus, book) and shows_made(table, modulus, found.book))
                self.assertTrue(compare(book, found.book))
                self.assertTrue(Greatest(table).has(found.book))
                self.assertIn(modulus, moduli_of(table))
                if len(found.book) <= 60:
                    self.assertEqual(table_of(least_book(found.book)), table)

    def test_keepers_let_in_just_the_free_rules(self):
        rng = random.Random(11)
        for book in books(12, 40):
            keeper = Keeper(book, limit=60)
            table = keeper.table
            for rule in further_rules(rng, book, 8):
                if is_free(table, rule):
                    self.assertEqual(keeper.add(rule), rule not in book and keeper.log[-1:] == (f"add {rule}",))
                    self.assertIn(rule, keeper)
                else:
                    found = free(table, rule)
                    self.raised_from("NotFree", (rule,), "Meets", (found.heap, found.left), keeper.add, rule)
                self.assertEqual(table_of(keeper.now), table)
            for rule in keeper.now.rules:
                place = needed_at(keeper.now, rule)
                if place is None:
                    keeper.drop(rule)
                else:
                    self.raised_from("Needed", (rule,), "Lacks", place, keeper.drop, rule)
            self.assertTrue(is_least(keeper.now) and compare(keeper.now, book))
            self.assertEqual(keeper.thin(), ())

    def test_desks_tell_what_the_functions_tell(self):
        rng = random.Random(13)
        for book in books(14, 40):
            desk = Desk()
            desk.run(*[f"add {rule}" for rule in book.rules])
            table = table_of(book)
            self.assertEqual(desk("book"), str(book))
            self.assertEqual(desk("table"), f"{table.begin} {table.period} {' '.join(map(str, table.numbers))}")
            self.assertEqual(desk("sizes 1 2"), str(free_sizes(table, 1, 2)))
            self.assertEqual(desk("needless"), str(Book(*needless(book))))
            self.assertEqual(desk("least"), str(least_book(book)))
            for rule in further_rules(rng, book):
                found = free(table, rule)
                self.assertEqual(desk(f"free {rule}"), "free" if found else f"barred {found.heap} {found.left}")
            position = Pile(17, book) ^ Plain(3) ^ Pile(8, book)
            desk.run("pile 17", "plain 3", "pile 8")
            self.assertEqual(desk("winning"), " / ".join(f"{index} {k}" for index, k in position.winning()) or "-")

    def test_texts_come_back(self):
        for book in books(15, 40):
            table = table_of(book)
            position = Pile(30, book) ^ Plain(4) ^ Pile(31, least_book(book))
            sizes = free_sizes(table, 0, 2, 1)
            self.assertEqual(read(write_book(book)), book)
            self.assertEqual(Book.read(str(book)), book)
            self.assertEqual(table_of(read(write_book(book))), read(write_table(table)))
            self.assertEqual(read(write_sizes(sizes)), sizes)
            self.assertEqual(read(write_position(position)).its_worth(), position.its_worth())
            self.assertEqual(read(write_position(position)), position)

    def test_winners_and_the_other_game(self):
        """A rule keeps the winners exactly if the same heaps stay lost; who takes last loses by the last table."""
        rng = random.Random(16)
        for book in books(17, 40):
            table = table_of(book)
            for rule in further_rules(rng, book, 6):
                self.assertEqual(bool(keeps_winners(table, rule)), parted_alone(book, book | rule) is None)
            last = last_loses(book)
            wins = oracle.wins(book.rules, 70, True)
            self.assertEqual([last[n] for n in range(70)], wins)
            for n in range(70):
                self.assertEqual(bool(saving_takes(book, last, n)), wins[n] and bool(book.takes(n)))


if __name__ == "__main__":
    unittest.main()
