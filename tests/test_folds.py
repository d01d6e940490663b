import itertools
import unittest

from foldlines.errors import NotSwept, UnknownName
from foldlines.folds import are_closed, classes, folded, is_unlike, unlike
from foldlines.holders import shown
from foldlines.programs import Program
from foldlines.sweeping import is_swept
from samples import ANY_VALUES, facts, is_right, not_swept, rings, run_alike, same, seen, twice

STOP = ("stop",)
BACK = ("back",)


def pair_of(lines, twins, *more):
    """A swept program in which main calls f and g, which have these lines, and h and i, which do nothing."""
    functions = {"main": [*more, ("call", "f"), ("call", "g"), ("call", "h"), ("call", "i"), STOP],
                 "f": lines, "g": twins, "h": [BACK], "i": [BACK]}
    program = Program(functions)
    assert is_swept(program)
    return program


def ring_of(many, ends=None):
    """A ring of so many functions, each of which calls the next one; with other last lines where ends tells so."""
    names = ["f" + chr(97 + at) for at in range(many)]
    functions = {"main": [("in", 0), *(("call", name) for name in names), STOP]}
    for at, name in enumerate(names):
        functions[name] = [("push", "link"), ("less", 0, 1), ("if", name), ("out", 0), ("sub", 0, 0, 2),
                           ("call", names[(at + 1) % many]), ("mark", name), ("pop", "link"),
                           (ends or {}).get(at, BACK)]
    return Program(functions)


class ClassesTest(unittest.TestCase):
    def test_classes(self):
        self.assertTrue(same(classes(program=rings()), (("a", "b"), ("main",))))
        self.assertTrue(same(classes(seen()), (("a", "b"), ("main",))))
        self.assertTrue(same(classes(twice()), (("double",), ("main",))))
        self.assertEqual(classes(facts()), (("f",), ("main",)))
        self.assertEqual(classes(Program.of(STOP)), (("main",),))

    def test_rings(self):
        for many in range(2, 13):
            program = ring_of(many)
            names = tuple(name for name in program.names if name != "main")
            self.assertEqual(classes(program), (names, ("main",)))
            broken = ring_of(many, {many - 1: ("tail", "fa")})
            self.assertEqual(classes(broken), tuple((name,) for name in program.names))

    def test_rings_with_two_kinds(self):
        program = ring_of(6, {0: ("tail", "fa"), 3: ("tail", "fd")})
        self.assertEqual(classes(program), (("fa", "fd"), ("fb", "fe"), ("fc", "ff"), ("main",)))

    def test_agreeing_lines(self):
        alike = [("num", 1, 5), ("copy", 1, 2), ("add", 1, 2, 3), ("sub", 1, 2, 3), ("mul", 1, 2, 3), ("same", 1, 2),
                 ("less", 1, 2), ("in", 1), ("out", 1), ("push", 1), ("read", 1, 0), ("write", 0, 1), ("pop", 1)]
        frame = [("push", "link"), ("push", 0)], [("pop", 1), ("pop", "link"), BACK]
        for line in alike:
            lines = [*frame[0], line, *frame[1]]
            lines = [*lines[:3], ("pop", 2), *lines[3:]] if line[0] == "push" else lines
            lines = [*lines[:2], ("push", 3), *lines[2:]] if line[0] == "pop" else lines
            self.assertIn(("f", "g"), classes(pair_of(lines, lines)), line)
            for at, part in enumerate(line):
                if isinstance(part, int) and (line[0], at) not in (("read", 2), ("write", 1)):
                    other = (*line[:at], part + 1, *line[at + 1:])
                    twins = [other if one == line else one for one in lines]
                    self.assertIn(("f",), classes(pair_of(lines, twins)), line)
        for line, other in (("add", "sub"), ("sub", "mul"), ("same", "less"), ("in", "out"), ("same", "copy")):
            parts = (1, 2, 3) if line in ("add", "sub") else (1,) if line == "in" else (1, 2)
            self.assertIn(("f",), classes(pair_of([(line, *parts), BACK], [(other, *parts), BACK])))

    def test_entries_and_the_link(self):
        lines = [("push", 0), ("push", 0), ("read", 1, 0), ("write", 0, 1), ("pop", 0), ("pop", 0), BACK]
        self.assertIn(("f", "g"), classes(pair_of(lines, lines)))
        for at, other in ((2, ("read", 1, 1)), (3, ("write", 1, 1))):
            twins = [other if index == at else line for index, line in enumerate(lines)]
            self.assertIn(("f",), classes(pair_of(lines, twins)))
        lines, twins = [("push", 0), ("pop", 0), BACK], [("push", "link"), ("pop", "link"), BACK]
        self.assertIn(("f",), classes(pair_of(lines, twins)))
        self.assertIn(("f", "g"), classes(pair_of(twins, twins)))

    def test_labels(self):
        def lines(*labels):
            a, b, c = labels
            return [("in", 0), ("mark", a), ("same", 0, 1), ("if", b), ("mark", c), ("in", 0), ("less", 0, 1),
                    ("unless", a),
                    ("same", 2, 0), ("if", c), ("mark", b), BACK]

        self.assertIn(("f", "g"), classes(pair_of(lines("a", "b", "c"), lines("c", "a", "b"))))
        twins = lines("a", "b", "c")
        twins[9] = ("if", "a")
        twins[7] = ("unless", "c")
        self.assertIn(("f",), classes(pair_of(lines("a", "b", "c"), twins)))

    def test_unlike_many_lines(self):
        self.assertIn(("f",), classes(pair_of([("in", 0), ("tail", "h")], [("in", 0)] * 2 + [("tail", "h")])))
        self.assertIn(("f",), classes(pair_of([STOP], [("in", 0), STOP])))

    def test_named_functions(self):
        self.assertIn(("f", "g"), classes(pair_of([("tail", "h")], [("tail", "i")])))
        self.assertIn(("f",), classes(pair_of([("tail", "h")], [("tail", "main")])))
        call = [("push", "link"), ("call", "h"), ("pop", "link"), BACK]
        self.assertIn(("f", "g"), classes(pair_of(call, [call[0], ("call", "i"), *call[2:]])))
        self.assertIn(("f",), classes(pair_of(call, [call[0], ("call", "f"), *call[2:]])))
        self.assertIn(("f", "g"), classes(pair_of([("addr", 0, "h"), BACK], [("addr", 0, "i"), BACK])))
        self.assertIn(("f",), classes(pair_of([("addr", 0, "h"), BACK], [("addr", 1, "i"), BACK])))
        self.assertIn(("f",), classes(pair_of([("addr", 0, "h"), BACK], [("addr", 0, "main"), BACK])))
        self.assertIn(("f", "g"), classes(pair_of([("tail", "f")], [("tail", "f")])))
        self.assertIn(("f", "g"), classes(pair_of([("tail", "g")], [("tail", "f")])))
        self.assertIn(("f", "g"), classes(pair_of([("tail", "f")], [("tail", "g")])))

    def test_shown_functions(self):
        compared = [("addr", 1, "h"), ("same", 1, 1)]
        self.assertIn(("f",), classes(pair_of([("addr", 0, "h"), BACK], [("addr", 0, "i"), BACK], *compared)))
        self.assertIn(("f",), classes(pair_of([("addr", 0, "i"), BACK], [("addr", 0, "h"), BACK], *compared)))
        self.assertIn(("f", "g"), classes(pair_of([("addr", 0, "h"), BACK], [("addr", 0, "h"), BACK], *compared)))
        self.assertIn(("f", "g"), classes(pair_of([("tail", "h")], [("tail", "i")], *compared)))
        self.assertIn(("h", "i"), classes(pair_of([("addr", 0, "h"), BACK], [("addr", 0, "i"), BACK], *compared)))

    def test_main_in_a_class(self):
        program = Program({"main": [("in", 0), ("out", 0), ("tail", "f")], "f": [("in", 0), ("out", 0), ("tail", "g")],
                           "g": [("in", 0), ("out", 0), ("tail", "main")]})
        self.assertEqual(classes(program), (("f", "g", "main"),))

    def test_order(self):
        functions = {name: [("in", at % 3), BACK] for at, name in enumerate("edcba")}
        functions["main"] = [*(("call", name) for name in "edcba"), STOP]
        self.assertEqual(classes(Program(functions)), (("a", "d"), ("b", "e"), ("c",), ("main",)))


class AreClosedTest(unittest.TestCase):
    def test_closed_partitions(self):
        program = ring_of(4)
        one = classes(program)
        singles = tuple((name,) for name in program.names)
        halves = (("fa", "fc"), ("fb", "fd"), ("main",))
        for value in (one, singles, halves, singles[::-1], (one[1], one[0][::-1]), (halves[2], halves[1], halves[0])):
            self.assertIs(are_closed(program, value), True, value)
        self.assertIs(are_closed(program=program, value=one), True)
        for value in ((("fa", "fb"), ("fc", "fd"), ("main",)), (("fa", "fc"), ("fb",), ("fd",), ("main",)),
                      (("fa", "fb", "fc"), ("fd",), ("main",)), (("fa", "fb", "fc", "fd", "main"),)):
            self.assertIs(are_closed(program, value), False, value)

    def test_each_other_one_parts_further(self):
        program = ring_of(3)
        names = program.names
        for numbers in itertools.product(range(4), repeat=4):
            parts = [[name for name, number in zip(names, numbers) if number == part] for part in set(numbers)]
            value = tuple(map(tuple, parts))
            right = sorted(map(sorted, value)) in ([list(names[:3]), ["main"]], [[name] for name in names])
            self.assertIs(are_closed(program, value), right, value)

    def test_shown_functions(self):
        program = seen()
        self.assertIs(are_closed(program, (("main",), ("a", "b"))), True)
        self.assertIs(are_closed(program, (("main",), ("a",), ("b",))), True)
        for more in ((), (("same", 1, 1),)):
            program = pair_of([("addr", 1, "h"), BACK], [("addr", 1, "i"), BACK], *more)
            value = (("f", "g"), ("h", "i"), ("main",))
            self.assertIs(are_closed(program, value), more == ())
            self.assertIs(are_closed(program, (("f",), ("g",), ("h", "i"), ("main",))), True)
            self.assertIs(are_closed(program, (("f", "g"), ("h",), ("i",), ("main",))), False)

    def test_unlike_lines(self):
        for lines, twins in (([("in", 0), BACK], [("in", 1), BACK]), ([BACK], [STOP]), ([BACK], [("in", 0), BACK]),
                             ([("tail", "h")], [("in", 0), ("tail", "h")])):
            program = pair_of(lines, twins)
            self.assertIs(are_closed(program, (("f", "g"), ("h",), ("i",), ("main",))), False)
            self.assertIs(are_closed(program, (("g",), ("f",), ("h", "i"), ("main",))), True)

    def test_wrong_forms(self):
        program = rings()
        right = (("a", "b"), ("main",))
        self.assertIs(are_closed(program, right), True)
        wrong = [list(right), (["a", "b"], ("main",)), (("a", "b"), "main"), (("a", "b"), ("main",), ()), (("a", "b"),),
                 (("a",), ("main",)), (("a", "b", "a"), ("main",)), (("a", "b"), ("main",), ("a",)), ("a", "b", "main"),
                 (("a", "b"), ("main", "c")), (("a", "b"), ("main", None)), (("a", ["b"]), ("main",)), ((), right),
                 {"a": right}, (("a", "b"), ("main",), None), (("a", ("b",)), ("main",)), (("a", "b", 0), ("main",))]
        for value in (*ANY_VALUES, *wrong):
            self.assertIs(are_closed(program, value), False, value)
            self.assertIs(are_closed(program, (value, *right)), False, value)
            self.assertIs(are_closed(program, (("a", "b", value), ("main",))), False, value)
        self.assertIs(are_closed(Program.of(STOP), (("main",),)), True)
        self.assertIs(are_closed(Program.of(STOP), ()), False)


class UnlikeTest(unittest.TestCase):
    def check(self, program):
        """Holds all rows of a program against its classes, and each of them with one thing otherwise."""
        part = {name: number for number, names in enumerate(classes(program)) for name in names}
        for f, g in itertools.product(program.names, repeat=2):
            row = unlike(program, f, g)
            self.assertIs(row is None, part[f] == part[g])
            if row is not None:
                self.assertTrue(is_unlike(program, f, g, row))
                self.assertIs(is_unlike(program, f, g, list(row)), False)
                self.assertIs(is_unlike(program, f, g, row[:-1]), False)
                self.assertIs(is_unlike(program, f, g, row + row[-1:]), False)
                for at, entry in enumerate(row):
                    for other in (list(entry), entry[:2], (*entry, None), (entry[1], None, entry[2]), None, (None,) * 3,
                                  ("gone", *entry[1:]), (*entry[:2], 60), (*entry[:2], -1), (*entry[:2], "0"),
                                  (*entry[:2], True if entry[2] in (None, 1) else False), ((entry[0],), *entry[1:])):
                        changed = (*row[:at], other, *row[at + 1:])
                        self.assertIs(is_unlike(program, f, g, changed), False, changed)
            for value in ANY_VALUES:
                self.assertIs(is_unlike(program, f, g, value), False)

    def test_rows(self):
        for program in (rings(), seen(), twice(), facts(), ring_of(4), ring_of(5, {4: ("tail", "fa")}),
                        ring_of(4, {1: ("tail", "fb"), 3: STOP}),
                        pair_of([("addr", 1, "h"), BACK], [("addr", 1, "i"), BACK]),
                        pair_of([("addr", 1, "h"), BACK], [("addr", 1, "i"), BACK], ("same", 1, 1))):
            self.check(program)

    def test_none(self):
        self.assertIs(unlike(program=rings(), f="a", g="b"), None)
        self.assertIs(unlike(rings(), "main", "main"), None)

    def test_each_end(self):
        self.assertTrue(same(unlike(rings(), "a", "main"), (("a", "main", 0),)))
        program = pair_of([("in", 0), BACK], [("in", 0), ("in", 0), BACK])
        self.assertIs(is_unlike(program, "f", "g", (("f", "g", None),)), True)
        self.assertIs(is_unlike(program, "f", "g", (("f", "g", 1),)), True)
        self.assertIs(is_unlike(program, "f", "g", (("f", "g", 0),)), False)
        self.assertIs(is_unlike(program, "f", "g", (("f", "g", 2),)), False)
        program = pair_of([("in", 0), BACK], [("in", 1), BACK])
        self.assertTrue(same(unlike(program, "f", "g"), (("f", "g", 0),)))
        self.assertIs(is_unlike(program, "f", "g", (("f", "g", None),)), False)
        self.assertIs(is_unlike(program, "g", "f", (("f", "g", 0),)), False)
        self.assertIs(is_unlike(program, "g", "f", (("g", "f", 0),)), True)
        for first, second in (("h", "i"), ("i", "h")):
            program = pair_of([("addr", 1, first), BACK], [("addr", 1, second), BACK], ("addr", 2, "h"), ("same", 2, 2))
            self.assertEqual(shown(program), ("h",))
            self.assertTrue(same(unlike(program, "f", "g"), (("f", "g", 0),)))
            self.assertIs(is_unlike(program, "f", "g", (("f", "g", 0), ("h", "i", 0))), False)
            self.assertIs(is_unlike(program, "f", "f", (("f", "f", 0),)), False)

    def test_longer_rows(self):
        program = ring_of(5, {4: ("tail", "fa")})
        row = tuple((f, g, 5) for f, g in (("fa", "fb"), ("fb", "fc"), ("fc", "fd"))) + (("fd", "fe", 8),)
        self.assertTrue(same(unlike(program, "fa", "fb"), row))
        self.assertIs(is_unlike(program=program, f="fa", g="fb", value=row), True)
        for at in range(4):
            for index in (0, 1, 2, 3, 4, 6, 7, None, 9):
                changed = (*row[:at], (*row[at][:2], index), *row[at + 1:])
                self.assertIs(is_unlike(program, "fa", "fb", changed), False, changed)
        self.assertIs(is_unlike(program, "fb", "fc", row[1:]), True)
        self.assertIs(is_unlike(program, "fa", "fb", row[1:]), False)
        around = tuple((f, g, 5) for f, g in (("fa", "fb"), ("fb", "fc"), ("fc", "fd")))
        self.assertIs(is_unlike(program, "fa", "fb", (*around, *row[3:])), True)

    def test_rows_over_tails_and_addresses(self):
        for first, second in (([("tail", "h")], [("tail", "i")]),
                              ([("addr", 0, "h"), BACK], [("addr", 0, "i"), BACK])):
            program = Program({"main": [("call", "f"), ("call", "g"), STOP], "f": first, "g": second,
                               "h": [("in", 0), BACK], "i": [("in", 1), BACK]})
            row = (("f", "g", 0), ("h", "i", 0))
            self.assertEqual(unlike(program, "f", "g"), row)
            self.assertIs(is_unlike(program, "f", "g", row), True)
            self.assertIs(is_unlike(program, "f", "g", row[:1]), False)

    def test_lines_that_do_not_agree_lead_nowhere(self):
        program = pair_of([("addr", 0, "h"), BACK], [("addr", 1, "main"), BACK])
        self.assertIs(is_unlike(program, "f", "g", (("f", "g", 0), ("h", "main", None))), False)
        self.assertIs(is_unlike(program, "f", "g", (("f", "g", 0),)), True)

        program = pair_of([("in", 0), BACK], [("in", 0), STOP])
        for row in ((("f", "g", 0), (None, None, 0)), (("f", "g", 0), (None, None, None)),
                    (("f", "g", 0), ("f", "g", 1))):
            self.assertIs(is_unlike(program, "f", "g", row), False)

    def test_functions_are_told_apart_by_their_addresses_alone(self):
        heads = ("addr", 1, "h"), ("same", 1, 1)
        program = pair_of([("tail", "h")], [("tail", "i")], *heads)
        self.assertIs(is_unlike(program, "f", "g", (("f", "g", 0),)), False)
        program = pair_of([("addr", 1, "h"), ("tail", "h")], [("addr", 1, "h"), ("tail", "i")], *heads)
        self.assertIs(is_unlike(program, "f", "g", (("f", "g", 1),)), False)
        self.assertIs(is_unlike(program, "f", "g", (("f", "g", 0),)), False)

    def test_unknown_names(self):
        program = rings()
        wrong = [value for value in ANY_VALUES if value != "main"]
        for action in (unlike, lambda program, f, g: is_unlike(program, f, g, None)):
            for value in wrong:
                for f, g in ((value, "a"), ("a", value), (value, None), (value, value)):
                    with self.assertRaises(UnknownName) as caught:
                        action(program, f, g)
                    self.assertTrue(same(caught.exception.value, value))


class FoldedTest(unittest.TestCase):
    def told(self, program):
        made = folded(program)
        self.assertTrue(is_right(made))
        self.assertLessEqual(made.size, program.size)
        for inputs in ([], [1, 2], [9, -1, 4]):
            self.assertTrue(run_alike(program, made, inputs, 100))
        return made

    def test_rings(self):
        self.assertTrue(same(folded(program=rings()).functions, {
            "a": (("push", "link"), ("out", 0), ("call", "a"), ("pop", "link"), BACK),
            "main": (("call", "a"), ("call", "a"), STOP)}))
        for many in range(2, 13):
            made = self.told(ring_of(many))
            self.assertEqual(made.names, ("fa", "main"))
            self.assertEqual(made["main"], (("in", 0), *[("call", "fa")] * many, STOP))
            self.assertEqual(self.told(ring_of(many, {many - 1: ("tail", "fa")})),
                             ring_of(many, {many - 1: ("tail", "fa")}))

    def test_main_stands_for_others(self):
        program = Program({"main": [("in", 0), ("out", 0), ("tail", "f")], "f": [("in", 0), ("out", 0), ("tail", "g")],
                           "g": [("in", 0), ("out", 0), ("tail", "main")]})
        self.assertEqual(self.told(program).functions, {"main": (("in", 0), ("out", 0), ("tail", "main"))})

    def test_shown_members_become_tails(self):
        self.assertEqual(self.told(seen()).functions, {**seen().functions, "b": (("tail", "a"),)})

    def test_small_shown_members_keep_their_lines(self):
        for lines in ([("out", 2), BACK], [STOP], [("tail", "c")]):
            functions = {**seen().functions, "a": lines, "b": lines}
            if lines[0][0] == "tail":
                functions["c"] = [BACK]
            self.assertEqual(self.told(Program(functions)), Program(functions))
        functions = {**seen().functions, "a": [("tail", "c")], "b": [("tail", "d")], "c": [BACK], "d": [BACK]}
        self.assertEqual(self.told(Program(functions))["b"], (("tail", "c"),))
        functions = {**seen().functions, "a": [("out", 2), ("out", 3), BACK], "b": [("out", 2), ("out", 3), BACK]}
        self.assertEqual(self.told(Program(functions))["b"], (("tail", "a"),))

    def like(self, heads, *members):
        """A program whose main begins with these lines, and calls these members, which are like."""
        return Program({"main": [*heads, *(("call", name) for name in members), STOP],
                        **{name: [("out", 2), ("in", 2), ("tail", members[-1])] for name in members}})

    def test_the_least_member(self):
        made = self.told(self.like([("addr", 0, "d"), ("callr", 0)], "b", "c", "d"))
        self.assertEqual(made.functions, {
            "b": (("out", 2), ("in", 2), ("tail", "b")),
            "main": (("addr", 0, "b"), ("callr", 0), *[("call", "b")] * 3, STOP)})

    def test_the_least_shown_member(self):
        heads = [("addr", 0, "d"), ("addr", 1, "c"), ("same", 0, 1), ("addr", 3, "b")]
        made = self.told(self.like(heads, "b", "c", "d"))
        self.assertEqual(made.functions, {
            "c": (("out", 2), ("in", 2), ("tail", "c")), "d": (("tail", "c"),),
            "main": (("addr", 0, "d"), ("addr", 1, "c"), ("same", 0, 1), ("addr", 3, "c"), *[("call", "c")] * 3, STOP)})

    def with_main(self, *heads):
        """A program in which main is in a class with f and g, whose first lines take addresses."""
        lines = [*heads, ("in", 4), ("same", 4, 5), ("if", "a"), ("out", 3), ("tail", "main"), ("mark", "a"), STOP]
        program = {"main": lines, "f": [*lines[:-3], ("tail", "f"), *lines[-2:]],
                   "g": [*lines[:-3], ("tail", "g"), *lines[-2:]]}
        return Program(program)

    def test_main_stands_for_the_least_shown_member(self):
        program = self.with_main(("addr", 0, "g"), ("addr", 1, "f"), ("same", 0, 1))
        self.assertEqual(shown(program), ("f", "g"))
        self.assertEqual(classes(program), (("f", "g", "main"),))
        made = self.told(program)
        expected = (("addr", 0, "g"), ("addr", 1, "main"), ("same", 0, 1))
        self.assertEqual(made.names, ("g", "main"))
        self.assertEqual((made["main"][:3], made["g"]), (expected, (("tail", "main"),)))

    def test_main_that_is_shown_stands_for_itself(self):
        program = self.with_main(("addr", 0, "main"), ("addr", 1, "f"), ("same", 0, 1), ("addr", 2, "g"))
        self.assertEqual(shown(program), ("f", "main"))
        made = self.told(program)
        self.assertEqual(made.names, ("f", "main"))
        self.assertEqual(made["main"][:4], (*program["main"][:3], ("addr", 2, "main")))
        self.assertEqual(made["f"], (("tail", "main"),))

    def test_main_beside_functions_that_are_not_shown(self):
        program = self.with_main(("addr", 0, "g"), ("addr", 1, "f"))
        made = self.told(program)
        self.assertEqual(made.names, ("main",))
        self.assertEqual(made["main"][:2], (("addr", 0, "main"), ("addr", 1, "main")))

    def test_arguments_stay(self):
        program = seen()
        folded(program)
        self.assertEqual(program, seen())


class NotSweptTest(unittest.TestCase):
    def test_programs_that_are_not_swept(self):
        for program in not_swept():
            self.assertRaises(NotSwept, classes, program)
            self.assertRaises(NotSwept, folded, program)
            for value in ANY_VALUES:
                self.assertRaises(NotSwept, are_closed, program, value)
                self.assertRaises(NotSwept, unlike, program, value, "main")
                self.assertRaises(NotSwept, unlike, program, "main", value)
                self.assertRaises(NotSwept, is_unlike, program, value, value, value)
