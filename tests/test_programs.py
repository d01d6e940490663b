import unittest

from foldlines.errors import (
    InvalidFunctions, InvalidLine, InvalidLines, InvalidName, TooMany, UnknownName, Untidy)
from foldlines.programs import BareProgram, Program
from samples import ANY_VALUES, DEEP, TWICE, bare, names_of, rings, same, stops, twice

UNTIDY = [("out", 0)]


class PropertiesTest(unittest.TestCase):
    def test_functions(self):
        functions = twice().functions
        self.assertTrue(same(functions, {name: tuple(TWICE[name]) for name in ("double", "main")}))

    def test_functions_are_new(self):
        program = twice()
        program.functions.clear()
        program.functions["main"] = ()
        self.assertEqual(program.functions, twice().functions)

    def test_names(self):
        self.assertTrue(same(twice().names, ("double", "main")))
        self.assertEqual(Program.of(("stop",)).names, ("main",))
        self.assertEqual(Program({name: stops(1) for name in ("z", "main", "a", "n")}).names, ("a", "main", "n", "z"))

    def test_sizes(self):
        self.assertTrue(same([twice().size, twice().size_of("main"), twice().size_of(name="double")], [9, 7, 2]))

    def test_text(self):
        text = "function double\nadd 0 0 0\nback\nfunction main\nnum 0 5\npush link\ncall double\npop link\nout 0\nback"
        self.assertEqual(twice().text, text)

    def test_lines_by_name(self):
        self.assertTrue(same(twice()["double"], (("add", 0, 0, 0), ("back",))))

    def test_unknown_names(self):
        program = twice()
        for value in ANY_VALUES:
            if value != "main":
                with self.subTest(value):
                    self.unknown(value, program.size_of)
                    self.unknown(value, lambda name: program[name])

    def test_length(self):
        self.assertEqual([len(twice()), len(rings()), len(Program.of(("stop",)))], [2, 3, 1])

    def test_names_in_programs(self):
        program = twice()
        for value in ANY_VALUES:
            with self.subTest(value):
                self.assertIs(value in program, value == "main")
        self.assertIs("double" in program, True)
        self.assertIs("single" in program, False)

    def test_equality(self):
        self.assertTrue(twice() == twice())
        self.assertFalse(twice() != twice())
        turned = Program(dict(reversed(list(TWICE.items()))))
        self.assertTrue(twice() == turned)
        self.assertFalse(twice() == twice().with_function("double", [("back",)]))
        self.assertFalse(twice() == twice().with_function("triple", [("back",)]))
        self.assertTrue(twice() != rings())

    def test_equality_asks_the_class(self):
        class Mine(Program):
            pass

        lines = [("in", 0), ("stop",)]
        self.assertFalse(Program.of(*lines) == BareProgram.of(*lines))
        self.assertFalse(BareProgram.of(*lines) == Program.of(*lines))
        self.assertTrue(BareProgram.of(*lines) == BareProgram.of(*lines))
        self.assertFalse(Mine.of(*lines) == Program.of(*lines))
        self.assertTrue(Mine.of(*lines) == Mine.of(*lines))

    def test_programs_are_not_equal_to_other_values(self):
        program = Program.of(("stop",))
        stranger = type("Program", (), {"functions": program.functions})()
        for value in (*ANY_VALUES, program.functions, program.text, program.names, stranger):
            self.assertIs(program == value, False)
            self.assertIs(program != value, True)

    def test_places(self):
        places = twice().places()
        self.assertIs(iter(places), places)
        expected = [(("double", at), line) for at, line in enumerate(TWICE["double"])]
        expected += [(("main", at), line) for at, line in enumerate(TWICE["main"])]
        self.assertTrue(same(list(places), expected))
        self.assertEqual(list(places), [])

    def test_places_ascend_by_number(self):
        places = [place for place, _ in Program({"main": stops(12), "a": stops(11)}).places()]
        self.assertEqual(places, sorted(places))
        self.assertEqual(len(places), 23)

    def test_class_values(self):
        self.assertTrue(same([Program.REGISTERS, Program.END], [6, "end"]))
        self.assertTrue(same([twice().REGISTERS, bare().END], [6, "end"]))

    def unknown(self, value, action):
        with self.assertRaises(UnknownName) as caught:
            action(value)
        self.assertTrue(same(caught.exception.value, value))


class ConstructorTest(unittest.TestCase):
    def test_lists_and_tuples(self):
        lists = Program({"main": [("stop",)]})
        tuples = Program(functions={"main": (("stop",),)})
        self.assertEqual(lists, tuples)
        self.assertTrue(same(lists.functions, {"main": (("stop",),)}))

    def test_what_is_passed_is_copied(self):
        lines = [("num", 0, 1), ("stop",)]
        functions = {"main": lines, "f": [("back",)]}
        program = Program(functions)
        self.assertEqual(functions, {"main": [("num", 0, 1), ("stop",)], "f": [("back",)]})
        self.assertEqual(list(functions), ["main", "f"])
        lines[0] = ("num", 0, 2)
        lines.clear()
        del functions["f"]
        self.assertEqual(program, Program({"main": [("num", 0, 1), ("stop",)], "f": [("back",)]}))

    def test_of(self):
        self.assertEqual(Program.of(("in", 0), ("stop",)), Program({"main": [("in", 0), ("stop",)]}))
        self.assertIs(type(BareProgram.of(("stop",))), BareProgram)
        self.assertRaises(InvalidFunctions, Program.of)
        self.assertRaises(InvalidLine, Program.of, None)

    def test_values_that_are_no_functions(self):
        wrong = [value for value in ANY_VALUES if value not in ({"main": [("stop",)]}, {"main": DEEP})]
        wrong += [{"main": value} for value in ANY_VALUES if not isinstance(value, (list, tuple)) or not value]
        wrong += [{"main": stops(1), value: stops(1)} for value in (
            None, True, 0, (), ("f",), "", "F", "f ", "f1", "lettersss", "f\n", "function f")]
        wrong += [{"Main": stops(1)}, {"f": stops(1)}, {"main": stops(1), "f": []}, [("main", stops(1))],
                  {"main": stops(1), "f": "stop"}, {"main": "stop"}, {"main": {0: ("stop",)}}]
        for value in wrong:
            with self.subTest(value):
                with self.assertRaises(InvalidFunctions) as caught:
                    Program(value)
                self.assertTrue(same(caught.exception.value, value))

    def test_words_of_one_and_eight_letters(self):
        program = Program({"main": stops(1), "a": stops(1), "z": stops(1), "abcdefgh": stops(1), "zzzzzzzz": stops(1)})
        self.assertEqual(program.names, ("a", "abcdefgh", "main", "z", "zzzzzzzz"))

    def test_numbers_of_functions(self):
        full = {name: stops(1) for name in names_of(24)}
        self.assertEqual(len(Program(full)), 24)
        self.raises(InvalidFunctions, {**full, "more": stops(1)})
        self.raises(InvalidFunctions, {})
        more = {**full, "more": None}
        self.raises(InvalidFunctions, more)

    def test_numbers_of_lines(self):
        self.assertEqual(Program.of(*stops(60)).size, 60)
        self.raises(TooMany, {"main": stops(61)}, limit=60)
        self.raises(TooMany, {"main": stops(1), "f": stops(61)}, limit=60)
        four = {name: stops(60) for name in names_of(4)}
        self.assertEqual(Program(four).size, 240)
        self.raises(TooMany, {**four, "more": stops(1)}, limit=240)
        self.raises(TooMany, {**four, "more": stops(61)}, limit=60)
        self.raises(TooMany, {"a": [("mark", "a" + chr(97 + at)) for at in range(26)] + stops(35), "main": stops(1)},
                    limit=60)

    def test_bare_programs_have_the_same_limits(self):
        self.assertEqual(BareProgram.of(*stops(60)).size, 60)
        for kind in (Program, BareProgram):
            with self.assertRaises(TooMany) as caught:
                kind.of(*stops(61))
            self.assertTrue(same(caught.exception.limit, 60))

    def test_the_first_invalid_line(self):
        self.raises(InvalidLine, {"main": [None, 0], "b": [("stop",), ("stop",), 0, None]}, name="b", index=2)
        self.raises(InvalidLine, {"main": [("stop",), 0], "z": [None]}, name="main", index=1)
        self.raises(InvalidLine, {"main": [("call", "gone"), None]}, name="main", index=0)
        self.raises(InvalidLine, {"main": [("call", "gone")], "z": [None]}, name="main", index=0)

    def test_labels(self):
        lines = [("if", "b"), ("mark", "a"), ("unless", "a"), ("mark", "b"), ("jump", "a")]
        self.assertEqual(Program.of(*lines)["main"], tuple(lines))
        twice_marked = [("jump", "a"), ("mark", "a"), ("stop",), ("mark", "b"), ("mark", "a"), ("mark", "b")]
        self.raises(InvalidLine, {"main": twice_marked}, name="main", index=4)
        self.raises(InvalidLine, {"main": [("mark", "a"), ("if", "b"), ("mark", "a")]}, name="main", index=1)
        self.raises(InvalidLine, {"main": [("jump", "a")], "f": [("mark", "a"), ("stop",)]}, name="main", index=0)
        self.raises(InvalidLine, {"main": [("stop",), ("if", "main")]}, name="main", index=1)
        same_label = {"main": [("mark", "a"), ("jump", "a")], "f": [("mark", "a"), ("jump", "a")]}
        self.assertEqual(Program(same_label).size, 4)

    def test_a_mark_of_another_form_marks_nothing(self):
        self.raises(InvalidLine, {"main": [("jump", "a"), ["mark", "a"]]}, name="main", index=0)
        self.raises(InvalidLine, {"main": [("stop",), ("jump", "a"), ("mark", "a", 0)]}, name="main", index=1)

    def test_functions_that_are_not_there(self):
        for line in (("call", "f"), ("tail", "f"), ("addr", 0, "f")):
            self.raises(InvalidLine, {"main": [line, ("stop",)]}, name="main", index=0)
            self.assertEqual(len(Program({"main": [line, ("stop",)], "f": [("back",)]})), 2)
        self.assertEqual(len(Program.of(("tail", "main"))), 1)
        self.raises(InvalidLine, {"main": [("mark", "f"), ("tail", "f")]}, name="main", index=1)

    def test_errors_in_their_order(self):
        long, bad = stops(61), [("stop",), None]
        self.raises(InvalidFunctions, {"main": bad, "f": []})
        self.raises(InvalidFunctions, {"main": long, "F": stops(1)})
        self.raises(InvalidLine, {"a": long, "main": bad}, name="main", index=1)
        self.raises(InvalidLine, {"a": UNTIDY, "main": bad}, name="main", index=1)
        self.raises(InvalidLine, {"main": stops(61) + [0]}, name="main", index=61)
        self.raises(TooMany, {"a": UNTIDY, "main": long}, limit=60)
        many = {name: stops(60) for name in names_of(4)}
        self.raises(TooMany, {**many, "a": UNTIDY}, limit=240)
        self.raises(Untidy, {"main": UNTIDY, "b": UNTIDY, "a": stops(1)}, name="b")
        self.raises(Untidy, {"main": UNTIDY, "z": UNTIDY}, name="main")

    def raises(self, error, functions, **fields):
        with self.assertRaises(error) as caught:
            Program(functions)
        for field, value in fields.items():
            self.assertTrue(same(getattr(caught.exception, field), value), (field, vars(caught.exception)))


class ChangedProgramsTest(unittest.TestCase):
    def test_with_function(self):
        program = twice()
        more = program.with_function("more", [("back",)])
        self.assertEqual(more.names, ("double", "main", "more"))
        other = program.with_function(name="double", lines=(("sub", 0, 0, 0), ("back",)))
        self.assertEqual(other.functions, {**program.functions, "double": (("sub", 0, 0, 0), ("back",))})
        self.assertEqual(program, twice())

    def test_with_function_takes_main_too(self):
        self.assertEqual(twice().with_function("main", stops(1))["main"], (("stop",),))

    def test_the_class_stays(self):
        class Mine(Program):
            pass

        for kind in (Program, BareProgram, Mine):
            program = kind({"main": stops(1), "f": stops(1)})
            self.assertIs(type(program.with_function("g", stops(1))), kind)
            self.assertIs(type(program.without("f")), kind)
            self.assertIs(type(kind.of(("stop",))), kind)
            self.assertIs(type(kind.read("function main\nstop")), kind)
            self.assertEqual(program.without("f"), kind.of(("stop",)))

    def test_with_function_copies_lines(self):
        lines = [("back",)]
        program = twice().with_function("more", lines)
        lines[0] = None
        self.assertEqual(program["more"], (("back",),))

    def test_with_function_names(self):
        for value in (*ANY_VALUES, "F", "lettersss", "f1"):
            if not (isinstance(value, str) and value in ("main", "m", "link", "stop")):
                self.raises(InvalidName, lambda value=value: twice().with_function(value, None), value=value)
        self.assertEqual(len(twice().with_function("eightlet", stops(1))), 3)

    def test_with_function_lines(self):
        for value in ANY_VALUES:
            if not isinstance(value, (list, tuple)) or not value:
                self.raises(InvalidLines, lambda value=value: twice().with_function("f", value), value=value)
            elif value not in ([("stop",)], (("stop",),)):
                self.raises(InvalidLine, lambda value=value: twice().with_function("f", value), name="f", index=0)

    def test_with_function_limits(self):
        full = Program({name: stops(1) for name in names_of(24)})
        self.raises(TooMany, lambda: full.with_function("more", [None]), limit=24)
        self.raises(InvalidLines, lambda: full.with_function("more", []), value=[])
        self.raises(InvalidName, lambda: full.with_function(7, []), value=7)
        self.assertEqual(len(full.with_function("main", stops(2))), 24)
        self.raises(TooMany, lambda: full.with_function("main", stops(61)), limit=60)
        wide = Program({name: stops(60) for name in names_of(4)})
        self.raises(TooMany, lambda: wide.with_function("more", stops(1)), limit=240)
        self.raises(TooMany, lambda: wide.with_function("more", UNTIDY), limit=240)
        self.raises(Untidy, lambda: full.with_function("main", UNTIDY), name="main")
        self.raises(InvalidLine, lambda: wide.with_function("more", stops(61) + [("call", "gone")]),
                    name="more", index=61)

    def test_without(self):
        program = Program({"main": [("call", "b"), ("stop",)], "b": [("back",)], "c": [("tail", "d")], "d": stops(1)})
        self.assertEqual(program.without("c", "d").names, ("b", "main"))
        self.assertEqual(program.without("c").names, ("b", "d", "main"))
        self.assertEqual(program.without(), program)
        self.assertEqual(len(program), 4)

    def test_without_names_that_are_not_there(self):
        program = twice().with_function("more", stops(1))
        for value in ANY_VALUES:
            self.raises(UnknownName, lambda value=value: program.without(value), value=value)
            self.raises(UnknownName, lambda value=value: program.without("more", value, 5), value=value)
        self.raises(UnknownName, lambda: program.without("more", "more"), value="more")
        self.raises(UnknownName, lambda: program.without("double", "main", "gone"), value="main")
        self.raises(UnknownName, lambda: program.without("double", "gone", "main"), value="gone")

    def test_without_functions_that_are_named(self):
        self.raises(InvalidLine, lambda: twice().without("double"), name="main", index=2)
        ring = rings()
        self.raises(InvalidLine, lambda: ring.without("a"), name="b", index=2)
        self.raises(InvalidLine, lambda: ring.without("a", "b"), name="main", index=0)

    def test_programs_beyond_the_limits(self):
        wide = Program.of_any_size({name: stops(1) for name in names_of(26)})
        self.assertEqual((len(wide), wide.size), (26, 26))
        self.raises(TooMany, lambda: wide.with_function("main", stops(1)), limit=24)
        self.raises(TooMany, lambda: wide.without("fa"), limit=24)
        self.assertEqual(len(wide.without("fa", "fb")), 24)
        self.raises(UnknownName, lambda: wide.without("gone"), value="gone")
        long = Program.of_any_size({"main": stops(61), "f": stops(1)})
        self.raises(TooMany, lambda: long.with_function("f", stops(2)), limit=60)
        self.assertEqual(Program.read(wide.without("fa", "fb").text).size, 24)
        self.assertRaises(TooMany, Program.read, long.text)

    def raises(self, error, action, **fields):
        with self.assertRaises(error) as caught:
            action()
        for field, value in fields.items():
            self.assertTrue(same(getattr(caught.exception, field), value), (field, vars(caught.exception)))
