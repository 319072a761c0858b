"""The form of the package's files: what ../shared/LANGUAGE.md asks for and a look at the code can tell."""

import ast
import pathlib
import unittest

import freetakes
from cases import FIELDS

FOLDER = pathlib.Path(freetakes.__file__).parent

INTERFACE = {
    "rules": "Rule Rested Sized Fixed Down",
    "books": "Book",
    "tables": "Table worths table_of",
    "look_tables": "shows_table",
    "free": "Free Barred FreeAnswer free is_free bars least_leave free_among",
    "look_free": "shows_free shows_barred",
    "sizes": "Sizes",
    "free_sizes": "free_sizes shows_sizes",
    "greatest": "Greatest given_back",
    "needless": "serving needed_at needless is_least least_book fewest shows_needed",
    "winners": "WinnersAnswer Kept Turned keeps_winners shows_turned lost_heaps",
    "losing": "LastTable last_loses saving_takes shows_last",
    "made": "Making Made Unmade made ways moduli_of shows_made shows_unmade",
    "piles": "Pile Plain",
    "positions": "Position",
    "matches": "Match",
    "keeper": "Keeper",
    "texts": "write_book write_table write_sizes write_position",
    "reader": "read_book read_table read_sizes read_position read",
    "desk": "Desk",
    "compare": "Comparison Alike Parted compare parted_alone beside same_takes shows_parted",
}

PILE = "its_worth each_take lets __eq__ __str__ __bool__ __lt__ __le__ __add__ __sub__ __floordiv__ __mod__ __xor__"

METHODS = {
    ("rules", "Rule"): "read stands_at left_at taken_at",
    ("rules", "Fixed"): "stands_at left_at taken_at leaving __eq__ __str__",
    ("rules", "Down"): "stands_at left_at taken_at __eq__ __str__",
    ("books", "Book"): "of plain read takes lefts is_part_of as_table __call__ __eq__ __str__ __len__ __bool__ __contains__ __or__ __xor__",
    ("tables", "Table"): "read heaps_of highest __getitem__ __call__ __eq__ __str__",
    ("sizes", "Sizes"): "every none multiples read is_part_of first_from walk count_to __invert__ __contains__ __bool__ __eq__ __str__",
    ("greatest", "Greatest"): "lets has each_take many sizes __contains__ __eq__",
    ("made", "Made"): "__eq__ __bool__",
    ("made", "Unmade"): "__eq__ __bool__",
    ("piles", "Pile"): PILE,
    ("piles", "Plain"): PILE,
    ("positions", "Position"): "of its_worth wins moves winning after __len__ __getitem__ __iter__ __xor__ __eq__ __str__",
    ("matches", "Match"): "position past mover take back winner rounds trial tried __len__ __getitem__ __setitem__",
    ("keeper", "Keeper"): "now limit log add drop exchange thin fill set_limit undo trial tried __len__ __contains__ __iadd__ __isub__",
    ("desk", "Desk"): "say run __call__",
}

BUILTINS = set(
    "len range enumerate zip min max sum abs sorted reversed int str bool bytes list tuple dict set frozenset isinstance ord repr "
    "any all divmod iter next map Exception ValueError TypeError KeyError IndexError LookupError ZeroDivisionError ArithmeticError "
    "OverflowError RuntimeError NotImplementedError AttributeError StopIteration NotImplemented".split())

LIBRARY = {"math": "gcd lcm isqrt comb perm factorial".split(), "heapq": "heappush heappop heapify heapreplace heappushpop".split(),
           "itertools": "product combinations permutations".split()}

BARRED_WORDS = set(
    "type typing enum Enum Generic Protocol ABC namedtuple NamedTuple TypedDict register mro elements open input law version_info "
    "eval exec getattr setattr hasattr globals locals vars dir id hash super global async lambda".split())

DOUBLE = set(
    "__init__ __eq__ __repr__ __str__ __len__ __enter__ __exit__ __call__ __iter__ __lt__ __le__ __gt__ __ge__ __ne__ __add__ __sub__ "
    "__mul__ __floordiv__ __mod__ __pow__ __and__ __or__ __xor__ __lshift__ __rshift__ __iadd__ __isub__ __neg__ __pos__ __invert__ "
    "__abs__ __bool__ __contains__ __getitem__ __setitem__".split())


def files():
    return sorted(path for path in FOLDER.rglob("*") if "__pycache__" not in path.parts and path.is_file())


def trees():
    return {path.stem: ast.parse(path.read_text(encoding="utf-8")) for path in files()}


def defined(tree):
    names = [node.name for node in tree.body if isinstance(node, (ast.FunctionDef, ast.ClassDef))]
    return names + [node.targets[0].id for node in tree.body if isinstance(node, ast.Assign)]


def docstrings(tree):
    holders = [node for node in ast.walk(tree) if isinstance(node, (ast.Module, ast.ClassDef, ast.FunctionDef))]
    return {id(node.body[0].value) for node in holders if node.body and isinstance(node.body[0], ast.Expr)}


def is_plain(node):
    """Whether this is plainly a number or a list of numbers: written out, or by a call that gives one."""
    if isinstance(node, ast.Call) and isinstance(node.func, ast.Name) and node.func.id == "set":
        return is_plain(node.args[0])
    if isinstance(node, ast.ListComp):
        return is_plain(node.elt)
    if isinstance(node, ast.BinOp):
        return is_plain(node.left) and is_plain(node.right)
    if isinstance(node, ast.Call):
        return isinstance(node.func, ast.Name) and node.func.id in ("int", "len", "ord")
    return isinstance(node, ast.Constant) and isinstance(node.value, int)


class Form(unittest.TestCase):
    def test_files(self):
        for path in files():
            self.assertEqual(path.suffix, ".py")
            self.assertEqual(path.name, path.name.lower())
            text = path.read_text(encoding="utf-8")
            self.assertTrue(all(" " <= sign <= "~" or sign == "\n" for sign in text), path)
            lines = text.split("\n")
            self.assertLessEqual(len(lines), 399, path)
            self.assertLessEqual(max(map(len, lines)), 120, path)

    def test_functions(self):
        for name, tree in trees().items():
            for node in ast.walk(tree):
                if isinstance(node, ast.FunctionDef):
                    self.assertLessEqual(node.end_lineno - node.lineno + 1, 40, (name, node.name))
                    kinds = {ast.unparse(decorator) for decorator in node.decorator_list}
                    self.assertLessEqual(kinds, {"property", "staticmethod", "classmethod", f"{node.name}.setter"}, (name, node.name))
                    if node.name.startswith("__"):
                        self.assertIn(node.name, DOUBLE)

    def test_imports(self):
        held = trees()
        needs = {name: set() for name in held}
        for name, tree in held.items():
            for node in ast.walk(tree):
                self.assertNotIsInstance(node, ast.Import)
                if isinstance(node, ast.ImportFrom):
                    self.assertIn(node, tree.body)
                    wanted = [alias.name for alias in node.names]
                    self.assertEqual([alias.asname for alias in node.names], [None] * len(wanted))
                    if node.module in LIBRARY:
                        self.assertLessEqual(set(wanted), set(LIBRARY[node.module]))
                        continue
                    folder, _, other = node.module.partition(".")
                    self.assertEqual(folder, "freetakes")
                    self.assertLessEqual(set(wanted), set(defined(held[other])))
                    needs[name].add(other)
        while needs:
            ready = [name for name, others in needs.items() if not others & set(needs)]
            self.assertTrue(ready, needs)
            for name in ready:
                del needs[name]

    def test_names(self):
        for name, tree in trees().items():
            calls = [node.func.id for node in ast.walk(tree) if isinstance(node, ast.Call) and isinstance(node.func, ast.Name)]
            known = set(defined(tree)) | BUILTINS | {"cls"}
            known |= {node.arg for node in ast.walk(tree) if isinstance(node, ast.arg)}
            # What is taken out of a table of functions has a name of its own before it is called.
            known |= {node.targets[0].id for node in ast.walk(tree) if isinstance(node, ast.Assign)
                      and isinstance(node.targets[0], ast.Name) and isinstance(node.value, ast.Subscript)}
            known |= {alias.name for node in tree.body if isinstance(node, ast.ImportFrom) for alias in node.names}
            self.assertLessEqual(set(calls), known, name)
            for node in ast.walk(tree):
                words = [getattr(node, part) for part in ("id", "attr", "arg", "name") if isinstance(getattr(node, part, None), str)]
                for word in words:
                    self.assertNotIn(word, BARRED_WORDS, name)
                    self.assertFalse(word.startswith("__") and word not in DOUBLE, (name, word))
                if isinstance(node, ast.Name) and isinstance(node.ctx, ast.Store) or isinstance(node, ast.arg):
                    self.assertNotIn(words[0], BUILTINS, name)

    def test_values_and_statements(self):
        barred = (ast.Global, ast.AsyncFunctionDef, ast.Div, ast.GeneratorExp, ast.AnnAssign, ast.AugAssign, ast.SetComp)
        for name, tree in trees().items():
            notes = docstrings(tree)
            for node in ast.walk(tree):
                self.assertNotIsInstance(node, barred, (name, getattr(node, "lineno", 0)))
                if isinstance(node, ast.Try):
                    self.assertFalse(node.finalbody)
                    self.assertLessEqual({handler.type.id for handler in node.handlers}, set(FIELDS), name)
                if isinstance(node, ast.Constant):
                    self.assertNotIsInstance(node.value, (float, complex), name)
                    if isinstance(node.value, str):
                        self.assertNotIn("%", node.value, name)
                        if id(node) not in notes:
                            self.assertFalse(set(node.value.split()) & {"type", "typing", "enum"}, name)

    def test_what_is_compared_is_plainly_numbers(self):
        """Piles have an order, so no list of objects can be taken for one of numbers (L5)."""
        for name, tree in trees().items():
            for node in ast.walk(tree):
                if isinstance(node, ast.Call) and isinstance(node.func, ast.Name) and node.func.id in ("sorted", "min", "max"):
                    self.assertTrue(any(is_plain(arg) for arg in node.args), (name, node.lineno))

    def test_the_interface_stands_in_its_files(self):
        held = trees()
        for name, wanted in INTERFACE.items():
            here = {node.name for node in held[name].body if isinstance(node, (ast.FunctionDef, ast.ClassDef))}
            self.assertLessEqual(set(wanted.split()), here, name)

    def test_the_methods_stand_in_their_classes(self):
        held = trees()
        for (name, kind), wanted in METHODS.items():
            body = [node.body for node in held[name].body if isinstance(node, ast.ClassDef) and node.name == kind][0]
            here = {node.name for node in body if isinstance(node, ast.FunctionDef)}
            self.assertLessEqual(set(wanted.split()), here, (name, kind))


if __name__ == "__main__":
    unittest.main()
