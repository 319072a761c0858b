"""The examples of the document, each with the value or the error that is shown there, in its order."""

import doctest
import pathlib
import unittest

from cases import FIELDS
from freetakes.errors import FreeError

RULES = """
>>> from freetakes.rules import Down, Fixed, Rule
>>> four, whole = Fixed(4, 1, 3, leave=2), Down(0, 1, 3)
>>> [str(four), str(whole), four.start, whole.start, str(four.leaving(0))]
['fixed 4 rest 1 of 3 leave 2', 'down 0 rest 1 of 3', 6, 1, 'fixed 4 rest 1 of 3']
>>> [four.stands_at(4), four.stands_at(7), four.left_at(7), whole.taken_at(7), whole.stands_at(6)]
[False, True, 3, 7, False]
>>> [Rule.read("fixed 2 leave 5") == Fixed(2, leave=5), Fixed(2) == Fixed(2, 0, 2)]
[True, False]
>>> four.left_at(4)
raises NoTake(4)
>>> Fixed(0, 9, 3)
raises BadRule('size')
>>> Rule.read("fixed 4 rest 2 of 2")
raises BadText(0, 5)
>>> Rule.read("down 0 leave 1")
raises BadText(0, 2)
"""

BOOKS = """
>>> from freetakes.books import Book
>>> book = Book(four, Fixed(1), whole, Fixed(1))
>>> [str(book), len(book), book.modulus, book.start, book.reach]
['fixed 1, fixed 4 rest 1 of 3 leave 2, down 0 rest 1 of 3', 3, 3, 6, 4]
>>> [book.takes(7), book.lefts(7), book.takes(6), book.takes(0), Fixed(1) in book, 1 in book]
[(1, 4, 7), (0, 3, 6), (1,), (), True, False]
>>> pair = Book.plain(2)
>>> [str(pair ^ Book(Fixed(2), Fixed(3))), str(pair - Fixed(1)), str(pair & Book()), pair.is_part_of(pair | four)]
['fixed 1, fixed 3', 'fixed 2', '-', True]
>>> [pair(0), pair(5), pair(10 ** 30), Book.read("fixed 2, fixed 1, fixed 2") == pair]
[0, 2, 1, True]
>>> Book(Fixed(1, 0, 5), Fixed(1, 0, 3))
raises TooMany('modulus', 12)
>>> Book.read("fixed 1, down")
raises BadText(0, 3)
>>> Book.of([Fixed(1), "fixed 2"])
raises BadBook(1)
"""

TABLES = """
>>> from freetakes.books import Book
>>> from freetakes.rules import Down, Fixed
>>> from freetakes.tables import Table, table_of, worths
>>> pair = Book(Fixed(1), Fixed(4))
>>> table = table_of(pair)
>>> [table.begin, table.period, table.numbers, table[7], table(10 ** 30), table.highest]
[0, 5, (0, 1, 0, 1, 2), 0, 0, 2]
>>> late = Book(Fixed(1, leave=2))
>>> [worths(late, 6), str(table_of(late)), Table(3, 4, [0, 0, 0, 1, 0, 1, 0]) == table_of(late)]
[[0, 0, 0, 1, 0, 1], '0 0 | 0 1', True]
>>> str(table_of(Book(Fixed(1, 0, 3), Fixed(1, 1, 3), Fixed(1, 2, 3)), 2))
'| 0 1'
>>> [str(table_of(Book())), str(table_of(Book(Down(0)))), str(Table.read("0 1 | 1 1")), Table.read("| 0 1") == Table(0, 2, (0, 1))]
['| 0', '0 | 1', '0 | 1', True]
>>> first = table.heaps_of(1)
>>> [next(first), next(first), next(first), list(table_of(late).heaps_of(2))]
[1, 3, 6, []]
>>> table_of(pair, 4)
raises TooMany('heaps', 4)
>>> Table(0, 2, [1, 0])
raises BadTable('numbers')
>>> table[-1]
raises BadSize(-1)
>>> Table.read("0 0 0 1")
raises BadText(0, 4)
>>> Table.read("1 | 0")
raises BadText(0, 0)
"""

LOOK_TABLES = """
>>> from freetakes.look_tables import shows_table
>>> [shows_table(pair, table), shows_table(pair, Table(0, 2, [0, 1])), shows_table(pair, [0, 1, 0, 1, 2])]
[True, False, False]
"""

FREE = """
>>> from freetakes.free import bars, free, free_among, is_free, least_leave
>>> found = free(table, Fixed(2))
>>> [bool(found), found.heap, found.left, bool(free(table, Fixed(6))), is_free(table, Fixed(2, 4, 5))]
[False, 2, 0, True, True]
>>> [is_free(table_of(Book.plain(2)), rule) for rule in (Down(0), Down(0, 1, 3), Fixed(3), Fixed(4))]
[False, True, False, True]
>>> again = table_of(late)
>>> [least_leave(again, 1), least_leave(again, 2), least_leave(again, 3), least_leave(again, 1, 1, 2)]
[2, None, 2, 1]
>>> endless = bars(again, Fixed(2))
>>> [[next(endless) for k in range(4)], list(bars(again, Fixed(3)))]
[[2, 4, 5, 6], [4]]
>>> [len(free_among(table, Fixed(1), Fixed(2), Down(0))), free(table, Fixed(4)) == free(table, Fixed(4)), found == free(table, Fixed(3))]
[1, True, False]
>>> least_leave(table, 0)
raises BadRule('size')
>>> free_among(table, Fixed(1), 3)
raises BadBook(1)
"""

LOOK_FREE = """
>>> from freetakes.look_free import shows_barred, shows_free
>>> [shows_free(pair, Fixed(6), table), shows_free(pair, Fixed(2), table), shows_free(late, Fixed(6), table)]
[True, False, False]
>>> [shows_barred(pair, Fixed(2), table, 2, 0), shows_barred(pair, Fixed(2), table, 3, 1), shows_barred(pair, Fixed(2), table, 2, True)]
[True, False, False]
"""

SIZES = """
>>> from freetakes.sizes import Sizes
>>> odd, far = Sizes((), (True, False)), Sizes((True, False, False), (True, False, True, False))
>>> [str(odd), str(far), str(Sizes((False, False, True), (False, True))), 10 ** 20 + 1 in odd, True in odd]
['(10)', '10(01)', '0(01)', True, False]
>>> [str(odd & far), str(~odd), str(odd - Sizes.multiples(3)), odd.first_from(4), odd.count_to(10 ** 20), far.is_part_of(odd)]
['1(0)', '(01)', '(100010)', 5, 50000000000000000000, False]
>>> Sizes((), [True] + [False] * 30) & Sizes((), [True] + [False] * 36)
raises TooMany('sizes', 1000)
>>> Sizes((), ())
raises BadSizes('again')
>>> Sizes.read("1(01)")
raises BadText(0, 0)
"""

FREE_SIZES = """
>>> from freetakes.free_sizes import free_sizes, shows_sizes
>>> few, late = Table(0, 3, (0, 1, 2)), Table(2, 2, (0, 0, 0, 1))
>>> [str(free_sizes(few)), str(free_sizes(late)), str(free_sizes(late, leave=2)), str(free_sizes(late, 1, 2))]
['(110)', '(0)', '(10)', '0(01)']
>>> [shows_sizes(late, 1, 2, 0, Sizes.read("0(01)")), shows_sizes(late, 1, 2, 0, odd), shows_sizes(late, 0, 1, 2, odd)]
[True, False, True]
"""

GREATEST = """
>>> from freetakes.greatest import Greatest, given_back
>>> wide = Greatest(few)
>>> [wide.lets(4, 0), (3, 0) in wide, Fixed(4) in wide, Down(0) in wide, Down(0, 1, 3) in wide, (4, True) in wide]
[True, False, True, False, True, False]
>>> [list(wide.each_take(5)), wide.many(5), wide.many(10 ** 30), given_back(wide, 7), Greatest(Book.plain(2).as_table()) == wide]
[[1, 2, 4, 5], 4, 666666666666666666666666666667, [0, 1, 2, 0, 1, 2, 0], True]
>>> wide.lets(2, 2)
raises BadSize(2)
"""

NEEDLESS = """
>>> from freetakes.books import Book
>>> from freetakes.needless import fewest, is_least, least_book, needed_at, needless, serving, shows_needed
>>> from freetakes.rules import Down, Fixed
>>> book = Book(Fixed(1), Fixed(2), Fixed(4), Fixed(5))
>>> [[str(rule) for rule in needless(book)], needed_at(book, Fixed(2)), needed_at(book, Fixed(4)), is_least(book)]
[['fixed 4', 'fixed 5'], (2, 0), None, False]
>>> [[str(rule) for rule in serving(book, 5, 0)], str(least_book(book)), shows_needed(book, Fixed(1), 4, 0)]
[['fixed 2', 'fixed 5'], 'fixed 1, fixed 2', False]
>>> halves = Book(Fixed(1, 1, 4), Fixed(1, 3, 4), Down(0, 1, 2))
>>> [len(needless(halves)), str(least_book(halves)), str(fewest(halves))]
[3, 'fixed 1 rest 1 of 4, fixed 1 rest 3 of 4', 'down 0 rest 1 of 2']
>>> needed_at(book, Fixed(3))
raises NotIn(Fixed(3))
"""

COMPARE = """
>>> from freetakes.compare import beside, compare, parted_alone, same_takes, shows_parted
>>> pair, third = Book(Fixed(1), Fixed(2)), Book(Fixed(1, 1, 3), Fixed(2, 2, 3))
>>> found = compare(pair, third)
>>> [bool(found), found.heap, found.first, found.second, parted_alone(pair, third), beside(pair, third)]
[False, 2, 2, 1, None, (2, 1)]
>>> one, other = Book(Fixed(1), Fixed(4)), Book(Fixed(1), Fixed(4), Fixed(6))
>>> [bool(compare(one, other)), same_takes(one, other), beside(one, other.as_table()), parted_alone(one, pair)]
[True, 6, None, 2]
>>> [same_takes(Book(Fixed(2)), Book(Fixed(2, 0, 2), Fixed(2, 1, 2))), shows_parted(pair, third, 2, 2, 1), shows_parted(pair, third, 5, 2, 1)]
[None, True, False]
"""

WINNERS = """
>>> from freetakes.winners import keeps_winners, lost_heaps, shows_turned
>>> third = Book(Fixed(1, 1, 3), Fixed(2, 2, 3)).as_table()
>>> [third[n] for n in range(6)]
[0, 1, 1, 0, 1, 1]
>>> [bool(keeps_winners(third, Fixed(1, 2, 3))), bool(keeps_winners(third, Down(0, 1, 3)))]
[True, True]
>>> turned = keeps_winners(third, Fixed(3))
>>> [bool(turned), turned.heap, turned.left, shows_turned(third, Fixed(3), 9, 6)]
[False, 3, 0, True]
>>> [heap for heap in lost_heaps(Book(Down(0)).as_table())]
[0]
"""

LOSING = """
>>> from freetakes.losing import LastTable, last_loses, saving_takes, shows_last
>>> last = last_loses(pair)
>>> [last.begin, last.period, last.truths, str(last), last[4], last[10 ** 30]]
[0, 3, (True, False, True), '| 101', False, False]
>>> [str(last_loses(Book(Down(0)))), str(last_loses(Book(Fixed(1, leave=2)))), str(LastTable(2, 2, [True, False, True, False]))]
['1 | 0', '11 | 10', '| 10']
>>> [saving_takes(pair, last, 5), saving_takes(pair, last, 4), saving_takes(pair, last, 0), shows_last(pair, LastTable(0, 2, (True, False)))]
[(1,), (), (), False]
>>> LastTable(0, 1, [False])
raises BadTable('truths')
"""

MADE = """
>>> from freetakes.made import Made, Unmade, made, moduli_of, shows_made, shows_unmade, ways
>>> from freetakes.tables import Table
>>> step = Table(0, 3, [0, 0, 1])
>>> [made(step, 1) == Unmade("heap", 2, 0), bool(made(step, 3)), shows_made(step, 3, Book(Fixed(2, 2, 3)))]
[True, True, True]
>>> wave = Table(1, 4, [0, 0, 1, 2, 1])
>>> found = made(wave, 1)
>>> [bool(found), found.kind, found.heap, found.worth, [str(rule) for rule in ways(wave, 1, 7, 0)], bool(made(wave, 2))]
[False, 'class', 3, 0, ['fixed 7'], True]
>>> [shows_unmade(wave, 1, "class", 7, 0), shows_unmade(wave, 1, "heap", 7, 0), shows_unmade(wave, 1, "class", 3, 1)]
[True, False, False]
>>> made(Table(0, 31, [0] + [1] * 30), 1)
raises TooMany('heaps', 30)
"""

PILES = """
>>> from freetakes.piles import Pile, Plain
>>> steps = Book(Fixed(1), Fixed(2))
>>> pile = Pile(7, steps)
>>> [pile.its_worth(), list(pile.each_take()), (pile - 2).size, pile // 4, pile % 4, Plain(7).its_worth(), str(Plain(7) - 7)]
[1, [1, 2], 5, 1, 3, 7, 'plain 0']
>>> [pile < pile + 1, bool(Pile(0, steps)), Pile(10 ** 30, steps).its_worth(), pile == Pile(7, Book(Fixed(2), Fixed(1)))]
[True, False, 1, True]
>>> pile - 3
raises NoTake(3)
>>> pile < Plain(9)
raises BadBook(None)
"""

POSITIONS = """
>>> from freetakes.positions import Position
>>> three = Pile(5, steps) ^ Plain(1) ^ Pile(3, steps)
>>> [three.its_worth(), three.wins(), list(three.winning()), list(three.moves())]
[3, True, [(0, 1)], [(0, 1), (0, 2), (1, 1), (2, 1), (2, 2)]]
>>> [str(three.after((1, 1))), Position().wins(), len(three ^ three), list((Plain(10 ** 20) ^ Plain(3)).winning())]
['5 by fixed 1, fixed 2 ^ plain 0 ^ 3 by fixed 1, fixed 2', False, 6, [(0, 99999999999999999997)]]
>>> [pile.size for pile in three]
[5, 1, 3]
>>> three.after((1, 2))
raises NoTake(2)
"""

MATCHES = """
>>> from freetakes.matches import Match
>>> match = Match(Pile(2, steps) ^ Plain(1))
>>> [match.winner(), list(match.rounds()), match.mover, len(match)]
[0, [(0, 1), (0, 1), (1, 1)], 0, 0]
>>> match[1] = 0
>>> [match.past, match.mover, match.winner(), match.tried(lambda held: held.take(0, 2)), str(match.position)]
[((1, 1),), 1, 1, None, '2 by fixed 1, fixed 2 ^ plain 0']
>>> match[0] = 2
raises NoTake(2)
>>> [match.back(), len(match)]
[(1, 1), 0]
>>> match.back()
raises Nothing()
"""

KEEPER = """
>>> from freetakes.books import Book
>>> from freetakes.keeper import Keeper
>>> from freetakes.rules import Down, Fixed
>>> keeper = Keeper(Book(Fixed(1), Fixed(2)))
>>> [keeper.add(Fixed(4)), keeper.add(Fixed(4)), len(keeper), [str(rule) for rule in keeper.fill(5)], keeper.log]
[True, False, 3, ['fixed 5'], ('add fixed 4', 'fill 1')]
>>> keeper.add(Fixed(3))
raises NotFree(Fixed(3)) from Meets(3, 0)
>>> keeper.drop(Fixed(1))
raises Needed(Fixed(1)) from Lacks(1, 0)
>>> [[str(rule) for rule in keeper.thin()], str(keeper.now), keeper.undo(), len(keeper), keeper.limit]
[['fixed 4', 'fixed 5'], 'fixed 1, fixed 2', None, 4, 40]
"""


def steps(block):
    """The rows of an example: what is run, and what is shown of it."""
    for part in block.split("\n>>> ")[1:]:
        run, _, shown = part.strip().partition("\n")
        yield run, shown


def run_row(run, names):
    """The value of a row that is run with these names, None of one that binds names."""
    if run.startswith("from ") or " = " in run.partition("(")[0]:
        return exec(run, names)
    return eval(run, names)


class Examples(unittest.TestCase):
    def check_error(self, run, names, shown):
        with self.assertRaises(FreeError, msg=run) as caught:
            run_row(run, names)
        error, _, cause = shown.removeprefix("raises ").partition(" from ")
        self.check_fields(caught.exception, error, names)
        if cause:
            self.check_fields(caught.exception.__cause__, cause, names)

    def check_fields(self, error, shown, names):
        kind, _, fields = shown.partition("(")
        self.assertEqual(type(error).__name__, kind)
        self.assertEqual([getattr(error, field) for field in FIELDS[kind]], eval(f"[{fields[:-1]}]", names))

    def check(self, block, names, wanted):
        many = 0
        for run, shown in steps(block):
            if shown.startswith("raises "):
                self.check_error(run, names, shown)
            else:
                got = run_row(run, names)
                self.assertEqual(repr(got) if shown else "", shown, run)
            many += 1
        self.assertEqual(many, wanted)

    def test_examples(self):
        names = {}
        for block, many in ((RULES, 9), (BOOKS, 10), (TABLES, 17), (LOOK_TABLES, 2), (FREE, 11), (LOOK_FREE, 3), (SIZES, 7),
                            (FREE_SIZES, 4), (GREATEST, 5), (NEEDLESS, 9), (COMPARE, 7), (WINNERS, 7), (LOSING, 6), (MADE, 9),
                            (PILES, 7), (POSITIONS, 6), (MATCHES, 8), (KEEPER, 8)):
            self.check(block, names, many)

    def test_readme(self):
        readme = pathlib.Path(__file__).parent.parent / "README.md"
        text = readme.read_text(encoding="utf-8").replace("```", "")
        found = doctest.DocTestParser().get_doctest(text, {}, "README", None, 0)
        self.assertEqual(doctest.DocTestRunner(verbose=False).run(found).failed, 0)
        self.assertGreater(len(found.examples), 5)


if __name__ == "__main__":
    unittest.main()
