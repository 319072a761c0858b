import unittest

from cases import FIELDS, no_integers
from freetakes import errors
from freetakes.errors import FreeError


class Errors(unittest.TestCase):
    def test_each_class_is_there(self):
        here = {name for name, thing in vars(errors).items() if isinstance(thing, type)}
        self.assertEqual(here, {"FreeError", *FIELDS})

    def test_bases(self):
        self.assertEqual(FreeError.__bases__, (ValueError,))
        for name in FIELDS:
            self.assertEqual(getattr(errors, name).__bases__, (FreeError,), name)

    def test_fields_by_position_and_by_name(self):
        values = [*no_integers(), 0, 5, -1, 10 ** 39]
        for name, fields in FIELDS.items():
            for at in range(len(values)):
                told = [values[(at + k) % len(values)] for k in range(len(fields))]
                by_name = dict(zip(fields, told))
                backwards = dict(reversed(list(by_name.items())))
                kind = getattr(errors, name)
                for error in (kind(*told), kind(**by_name), kind(**backwards)):
                    self.assertEqual(set(vars(error)), set(fields))
                    for field, value in by_name.items():
                        self.assertIs(getattr(error, field), value, (name, field))

    def test_fields_must_be_just_these(self):
        for name, fields in FIELDS.items():
            kind = getattr(errors, name)
            with self.assertRaises(TypeError):
                kind(*range(len(fields) + 1)) if fields else kind(other=1)
            if fields:
                with self.assertRaises(TypeError):
                    kind(*range(len(fields) - 1))

    def test_raised_and_caught(self):
        for name, fields in FIELDS.items():
            for caught in (getattr(errors, name), FreeError, ValueError):
                with self.assertRaises(caught):
                    raise getattr(errors, name)(*range(len(fields)))

    def test_equal_nothing_else(self):
        for name, fields in FIELDS.items():
            kind = getattr(errors, name)
            told = list(range(len(fields)))
            self.assertFalse(kind(*told) == kind(*told), name)


if __name__ == "__main__":
    unittest.main()
