import unittest

from foldlines import errors, limits
from samples import ANY_VALUES, same

TABLE = {
    "InvalidFunctions": (ValueError, ("value",)),
    "InvalidInputs": (ValueError, ("value",)),
    "InvalidTable": (ValueError, ("value",)),
    "InvalidPlaces": (ValueError, ("value",)),
    "InvalidLines": (ValueError, ("value",)),
    "InvalidStretch": (ValueError, ("value",)),
    "InvalidName": (ValueError, ("value",)),
    "InvalidWord": (ValueError, ("value",)),
    "InvalidLine": (ValueError, ("name", "index")),
    "InvalidText": (ValueError, ("index",)),
    "InvalidRow": (ValueError, ("index",)),
    "InvalidGuard": (ValueError, ("index",)),
    "InvalidLog": (ValueError, ("line",)),
    "InvalidSay": (ValueError, ("row",)),
    "Untidy": (ValueError, ("name",)),
    "SameName": (ValueError, ("name",)),
    "NotStraight": (ValueError, ("name",)),
    "NotSwept": (ValueError, ()),
    "UnknownName": (LookupError, ("value",)),
    "UnknownPlace": (LookupError, ("value",)),
    "OutOfRange": (LookupError, ("value",)),
    "TooMany": (OverflowError, ("limit",)),
    "Broken": (RuntimeError, ("index",)),
}


class ErrorsTest(unittest.TestCase):
    def test_all_are_directly_below_their_python_error(self):
        for name, (base, _) in TABLE.items():
            with self.subTest(name):
                self.assertEqual(getattr(errors, name).__bases__, (base,))

    def test_fields_by_position(self):
        for name, (_, fields) in TABLE.items():
            for value in ANY_VALUES:
                with self.subTest(name, value=value):
                    values = [value, "another"][:len(fields)]
                    made = getattr(errors, name)(*values)
                    self.assertEqual(vars(made).keys(), set(fields))
                    for field, kept in zip(fields, values):
                        self.assertTrue(same(getattr(made, field), kept))

    def test_fields_by_name(self):
        for name, (_, fields) in TABLE.items():
            with self.subTest(name):
                made = getattr(errors, name)(**{field: [field] for field in fields})
                for field in fields:
                    self.assertEqual(getattr(made, field), [field])

    def test_name_and_index_do_not_change_places(self):
        made = errors.InvalidLine(index=3, name="main")
        self.assertEqual((made.name, made.index), ("main", 3))
        made = errors.InvalidLine("main", 3)
        self.assertEqual((made.name, made.index), ("main", 3))

    def test_no_other_number_of_fields(self):
        for name, (_, fields) in TABLE.items():
            with self.subTest(name):
                if fields:
                    with self.assertRaises(TypeError):
                        getattr(errors, name)()
                    with self.assertRaises(TypeError):
                        getattr(errors, name)(*range(len(fields) + 1))

    def test_each_is_raised_and_caught_by_its_name(self):
        for name, (base, fields) in TABLE.items():
            with self.subTest(name):
                error = getattr(errors, name)
                with self.assertRaises(error):
                    raise error(*range(len(fields)))
                with self.assertRaises(base):
                    raise error(*range(len(fields)))

    def test_an_error_tells_its_fields(self):
        self.assertEqual(repr(errors.Untidy("main")), "Untidy('main')")


class LimitsTest(unittest.TestCase):
    def test_limits(self):
        told = (limits.MAX_FUNCTIONS, limits.MAX_LINES, limits.MAX_ALL, limits.REGISTERS, limits.REACH)
        self.assertTrue(same(told, (24, 60, 240, 6, 15)))
