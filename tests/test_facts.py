import unittest

from foldlines.errors import NotSwept, UnknownName, UnknownPlace
from foldlines.facts import idle, is_idle, is_known, known, link_wanted, wanted, writes
from foldlines.programs import Program
from samples import ANY_VALUES, facts, not_swept, rings, same, twice

STOP = ("stop",)
BACK = ("back",)


class WritesTest(unittest.TestCase):
    def test_writes(self):
        self.assertTrue(same(writes(program=facts()), {"f": (2,), "main": (0, 1, 2)}))
        self.assertTrue(same(writes(rings()), {"a": (), "b": (), "main": ()}))
        self.assertTrue(same(list(writes(twice())), ["double", "main"]))

    def test_each_line(self):
        told = {("num", 3, 1): (3,), ("copy", 3, 1): (3,), ("add", 3, 1, 2): (3,), ("sub", 3, 1, 2): (3,),
                ("mul", 3, 1, 2): (3,), ("addr", 3, "main"): (3,), ("in", 3): (3,), ("pop", 3): (3,),
                ("read", 3, 0): (3,), ("same", 3, 2): (), ("less", 3, 2): (), ("out", 3): (), ("push", 3): (),
                ("write", 0, 3): (), ("push", "link"): ()}
        for line, expected in told.items():
            with self.subTest(line):
                program = Program.of(("push", 0), ("push", 0), line, STOP)
                self.assertEqual(writes(program), {"main": expected})
        self.assertEqual(writes(Program.of(("push", "link"), ("pop", "link"), BACK)), {"main": ()})

    def test_goals_of_calls_tails_and_registers(self):
        program = Program({
            "main": [("call", "a"), ("num", 0, 1), STOP], "a": [("num", 1, 1), ("tail", "b")],
            "b": [("push", "link"), ("addr", 2, "c"), ("callr", 2), ("pop", "link"), BACK], "c": [("num", 3, 1), BACK]})
        expected = {"a": (1, 2, 3), "b": (2, 3), "c": (3,), "main": (0, 1, 2, 3)}
        self.assertEqual(writes(program), expected)

    def test_addresses_alone_write_nothing(self):
        program = Program({"main": [("addr", 0, "f"), STOP], "f": [("num", 3, 1), BACK]})
        self.assertEqual(writes(program), {"f": (3,), "main": (0,)})

    def test_rings(self):
        for many in range(2, 13):
            names = ["main"] + ["f" + chr(97 + at) for at in range(many - 1)]
            for word in ("call", "tail"):
                functions = {}
                for at, name in enumerate(names):
                    end = [("tail", names[(at + 1) % many])]
                    if word == "call":
                        end = [("push", "link"), ("call", names[(at + 1) % many]), ("pop", "link"), BACK]
                    functions[name] = [("num", at % 3, 9), *end]
                expected = tuple(range(min(many, 3)))
                self.assertEqual(writes(Program(functions)), {name: expected for name in sorted(names)})

    def test_registers_with_two_functions(self):
        program = Program({"main": [("addr", 0, "f"), ("copy", 1, 0), ("addr", 1, "g"), ("callr", 1), STOP],
                           "f": [("num", 4, 1), BACK], "g": [("num", 5, 1), ("tail", "main")]})
        self.assertEqual(writes(program), {"f": (4,), "g": (0, 1, 4, 5), "main": (0, 1, 4, 5)})


class KnownTest(unittest.TestCase):
    def test_known(self):
        told = known(program=facts())
        expected = {("f", 0): {}, ("f", 1): {2: 7}, ("main", 0): {}, ("main", 1): {0: 100}, ("main", 2): {0: 100},
                    ("main", 3): {0: 100, 1: 100}, ("main", 4): {0: 100, 1: 100}}
        self.assertTrue(same(told, expected))

    def test_each_line(self):
        told = {("num", 1, -3): {0: 5, 1: -3}, ("num", 0, 6): {0: 6, 1: 7}, ("copy", 1, 0): {0: 5, 1: 5},
                ("copy", 2, 1): {0: 5, 1: 7, 2: 7}, ("copy", 1, 2): {0: 5}, ("copy", 0, 0): {0: 5, 1: 7},
                ("add", 0, 1, 1): {1: 7}, ("sub", 1, 0, 0): {0: 5}, ("mul", 1, 1, 1): {0: 5},
                ("addr", 0, "main"): {1: 7},
                ("in", 1): {0: 5}, ("pop", 1): {0: 5}, ("read", 0, 0): {1: 7}, ("same", 0, 1): {0: 5, 1: 7},
                ("less", 0, 1): {0: 5, 1: 7}, ("out", 0): {0: 5, 1: 7}, ("push", 0): {0: 5, 1: 7},
                ("push", "link"): {0: 5, 1: 7}, ("write", 0, 1): {0: 5, 1: 7}}
        for line, expected in told.items():
            with self.subTest(line):
                program = Program.of(("push", 0), ("num", 1, 7), ("num", 0, 5), line, STOP)
                self.assertTrue(same(known(program)[("main", 4)], expected))
                self.assertTrue(same(known(program)[("main", 3)], {0: 5, 1: 7}))

    def test_ways_that_meet(self):
        program = Program.of(("num", 0, 5), ("num", 1, 5), ("in", 2), ("same", 2, 0), ("if", "a"), ("num", 1, 6),
                             ("num", 3, 7), ("jump", "b"), ("mark", "a"), ("num", 3, 7), ("mark", "b"), STOP)
        self.assertEqual(known(program)[("main", 8)], {0: 5, 1: 5})
        self.assertEqual(known(program)[("main", 10)], {0: 5, 3: 7})

    def test_loops(self):
        lines = [("num", 0, 5), ("num", 1, 5), ("mark", "a"), ("out", 0), ("copy", 0, 1), ("in", 2), ("same", 2, 3),
                 ("unless", "a"), STOP]
        self.assertEqual(known(Program.of(*lines))[("main", 2)], {0: 5, 1: 5})
        lines[4] = ("num", 0, 6)
        self.assertEqual(known(Program.of(*lines))[("main", 2)], {1: 5})
        self.assertEqual(known(Program.of(*lines))[("main", 8)], {0: 6, 1: 5})

    def test_nothing_is_known_where_functions_begin(self):
        program = Program.of(("mark", "a"), ("num", 0, 5), ("jump", "a"))
        self.assertEqual(known(program), {("main", 0): {}, ("main", 1): {}, ("main", 2): {0: 5}})
        self.assertEqual(known(facts())[("f", 0)], {})

    def test_calls_lose_what_their_goals_write(self):
        functions = {"main": [("num", 0, 1), ("num", 1, 2), ("num", 2, 3), ("call", "f"), STOP],
                     "f": [("in", 0), ("tail", "g")], "g": [("num", 1, 2), BACK]}
        self.assertEqual(known(Program(functions))[("main", 4)], {2: 3})
        functions["main"][3:4] = [("addr", 4, "f"), ("callr", 4)]
        self.assertEqual(known(Program(functions))[("main", 5)], {2: 3})
        functions["main"][3:5] = [("addr", 5, "f"), ("callr", 4)]
        self.assertEqual(known(Program(functions))[("main", 5)], {0: 1, 1: 2, 2: 3})

    def test_rings_of_calls(self):
        around = [("push", "link"), ("in", 0), ("call", "g"), ("pop", "link"), BACK]
        program = Program({"main": [("num", 0, 1), ("num", 1, 2), ("num", 2, 3), ("call", "f"), STOP],
                           "f": around, "g": [("push", "link"), ("in", 1), ("call", "f"), ("pop", "link"), BACK]})
        self.assertEqual(known(program)[("main", 4)], {2: 3})

    def test_keys_are_ascending(self):
        program = Program.of(("num", 5, 1), ("num", 3, 1), ("num", 4, 1), STOP)
        self.assertEqual(list(known(program)[("main", 3)]), [3, 4, 5])
        self.assertEqual(list(known(program)), [("main", 0), ("main", 1), ("main", 2), ("main", 3)])


class IsKnownTest(unittest.TestCase):
    def test_right_tables(self):
        program = facts()
        table = known(program)
        self.assertIs(is_known(program, table), True)
        self.assertIs(is_known(program=program, value={place: {} for place in table}), True)
        less = {place: dict(row) for place, row in table.items()}
        del less[("main", 4)][0]
        self.assertIs(is_known(program, less), True)
        self.assertIs(is_known(program, dict(reversed(less.items()))), True)
        del less[("main", 2)][0]
        self.assertIs(is_known(program, less), False)

    def test_one_thing_otherwise(self):
        program = facts()
        for place, row in known(program).items():
            for key in range(6):
                for number in (7, 100, 5, -1):
                    if row.get(key) != number:
                        table = known(program)
                        table[place][key] = number
                        self.assertIs(is_known(program, table), False, (place, key, number))

    def test_tables_that_keep_each_other_right(self):
        program = Program.of(("in", 0), ("mark", "a"), ("out", 0), ("in", 1), ("same", 1, 2), ("unless", "a"), STOP)
        table = {place: {} for place in known(program)}
        for at in range(1, 7):
            table[("main", at)] = {0: 5}
        self.assertIs(is_known(program, table), False)

    def test_wrong_forms(self):
        program = facts()
        for value in ANY_VALUES:
            self.assertIs(is_known(program, value), False)
            for key in (("main", 3), ("f", 0)):
                right = value == {} and key == ("f", 0)
                self.assertIs(is_known(program, {**known(program), key: value}), right, value)
                self.assertIs(is_known(program, {**known(program), ("main", 2): {0: value}}), False)
        self.assertIs(is_known(program, list(known(program).items())), False)
        self.assertIs(is_known(program, ()), False)
        table = known(program)
        del table[("main", 4)]
        self.assertIs(is_known(program, table), False)
        for key in (("main", 5), ("main", -1), "main", ("main",), ("gone", 0), ("main", "4"), None, ("main", 4, 0)):
            self.assertIs(is_known(program, {**table, key: {}}), False)
            self.assertIs(is_known(program, {**known(program), key: {}}), False)

    def test_bools(self):
        program = Program.of(("num", 0, 1), ("num", 1, 0), STOP)
        right = {("main", 0): {}, ("main", 1): {0: 1}, ("main", 2): {0: 1, 1: 0}}
        self.assertIs(is_known(program, right), True)
        self.assertIs(is_known(program, {**right, ("main", 1): {0: True}}), False)
        self.assertIs(is_known(program, {**right, ("main", 1): {False: 1}}), False)
        self.assertIs(is_known(program, {**right, ("main", 2): {0: 1, True: 0}}), False)
        self.assertIs(is_known(program, {**right, ("main", 2): {0: 1, 1: False}}), False)
        wrong = {("main", False): {}, ("main", 1): {}, ("main", 2): {}}
        self.assertIs(is_known(program, wrong), False)
        self.assertIs(is_known(program, {("main", 0): {}, ("main", True): {}, ("main", 2): {}}), False)

    def test_keys_that_are_no_registers(self):
        program = Program.of(("num", 0, 1), STOP)
        for key in (-1, 6, "0", None, (0,), 10 ** 59):
            self.assertIs(is_known(program, {("main", 0): {}, ("main", 1): {key: 1}}), False)

    def test_the_value_stays(self):
        table = known(facts())
        is_known(facts(), table)
        self.assertEqual(table, known(facts()))


class WantedTest(unittest.TestCase):
    def test_wanted(self):
        program = facts()
        told = {place: wanted(program, place) for place, _ in program.places()}
        expected = {("f", 0): (), ("f", 1): (), ("main", 0): (), ("main", 1): (), ("main", 2): (), ("main", 3): (1,),
                    ("main", 4): ()}
        self.assertTrue(same(told, expected))

    def test_what_lines_use(self):
        told = {("copy", 3, 1): (), ("add", 3, 2, 1): (1, 2), ("sub", 3, 1, 1): (1,), ("mul", 3, 3, 0): (0, 3),
                ("same", 1, 2): (), ("less", 2, 1): (1, 2), ("in", 3): (), ("out", 3): (3,), ("push", 3): (3,),
                ("write", 1, 3): (3,), ("read", 3, 1): (), ("pop", 3): (), ("callr", 3): (3,), ("num", 3, 1): (),
                ("addr", 3, "main"): (), ("push", "link"): (), ("mark", "a"): ()}
        for line, expected in told.items():
            with self.subTest(line):
                lines = [("push", 5), ("push", 5), line, ("jump", "a") if line[0] == "mark" else STOP]
                self.assertTrue(same(wanted(Program.of(*lines[2 if line[0] == "mark" else 0:]),
                                            ("main", 0 if line[0] == "mark" else 2)), expected))

    def test_pure_lines_use_if_what_they_write_is_wanted(self):
        told = {("copy", 3, 1): (1,), ("read", 3, 1): (), ("num", 3, 1): (), ("in", 3): (), ("pop", 3): (),
                ("copy", 3, 3): (3,), ("add", 3, 3, 2): (2, 3), ("copy", 2, 1): (3,), ("same", 1, 2): (3,),
                ("addr", 3, "main"): ()}
        for line, expected in told.items():
            with self.subTest(line):
                program = Program.of(("push", 5), ("push", 5), line, ("out", 3), STOP)
                self.assertEqual(wanted(program, ("main", 2)), expected)

    def test_the_flag(self):
        for word in ("if", "unless"):
            program = Program.of(("same", 1, 2), (word, "a"), ("out", 0), ("mark", "a"), STOP)
            told = [wanted(program, ("main", at)) for at in range(5)]
            self.assertTrue(same(told, [(0, 1, 2), (0, "flag"), (0,), (), ()]))
        program = Program.of(("less", 1, 2), ("same", 3, 4), ("if", "a"), ("mark", "a"), STOP)
        self.assertEqual([wanted(program, ("main", at)) for at in range(3)], [(1, 2, 3, 4), (3, 4), ("flag",)])

    def test_loops(self):
        program = Program.of(("mark", "a"), ("copy", 0, 1), ("copy", 1, 2), ("copy", 2, 3), ("in", 4), ("same", 4, 5),
                             ("unless", "a"), ("out", 0), STOP)
        self.assertEqual(wanted(program, ("main", 0)), (1, 2, 3, 5))
        self.assertEqual(wanted(program, ("main", 4)), (0, 1, 2, 3, 5))
        self.assertEqual(wanted(program, ("main", 6)), (0, 1, 2, 3, 5, "flag"))

    def test_calls(self):
        functions = {"main": [("num", 0, 1), ("num", 1, 1), ("call", "f"), ("out", 1), STOP], "f": [("out", 0), BACK]}
        program = Program(functions)
        self.assertEqual([wanted(program, ("main", at)) for at in range(4)], [(), (0,), (0, 1), (1,)])
        self.assertEqual([wanted(program, ("f", at)) for at in range(2)], [(0, 1), (1,)])
        functions["f"] = [("out", 0), STOP]
        self.assertEqual(wanted(Program(functions), ("main", 2)), (0,))
        functions["f"] = [("in", 1), BACK]
        self.assertEqual(wanted(Program(functions), ("main", 2)), ())

    def test_backs_go_behind_all_calls_and_tails(self):
        program = Program({
            "main": [("call", "f"), ("out", 0), ("call", "g"), ("out", 1), ("addr", 5, "g"), ("callr", 5), ("out", 2),
                     STOP], "f": [("tail", "g")], "g": [("num", 4, 1), ("tail", "h")], "h": [BACK],
        })
        self.assertEqual(wanted(program, ("h", 0)), (0, 1, 2))
        self.assertEqual(wanted(program, ("f", 0)), (0, 1, 2))
        self.assertEqual(wanted(program, ("main", 6)), (2,))

    def test_backs_of_functions_go_behind_their_own_calls_alone(self):
        program = Program({"main": [("call", "f"), ("out", 0), ("call", "g"), ("out", 1), STOP], "f": [BACK],
                           "g": [("tail", "h")], "h": [BACK]})
        self.assertEqual(wanted(program, ("f", 0)), (0, 1))
        self.assertEqual(wanted(program, ("h", 0)), (1,))

    def test_registers_that_hold_nothing_go_nowhere(self):
        program = Program.of(("callr", 0), ("out", 1), STOP)
        self.assertEqual(wanted(program, ("main", 0)), (0,))
        program = Program({"main": [("addr", 0, "f"), ("callr", 0), ("out", 1), STOP], "f": [BACK]})
        self.assertEqual(wanted(program, ("main", 1)), (0, 1))

    def test_rings_of_tails_and_of_calls(self):
        functions = {"main": [("call", "f"), ("out", 0), STOP], "f": [("same", 0, 1), ("if", "a"), ("tail", "g"),
                                                                      ("mark", "a"), BACK], "g": [("tail", "f")]}
        self.assertEqual(wanted(Program(functions), ("g", 0)), (0, 1))
        around = [("push", "link"), ("call", "g"), ("out", 2), ("pop", "link"), BACK]
        program = Program({"main": [("call", "f"), ("out", 0), STOP], "f": around,
                           "g": [("push", "link"), ("call", "f"), ("out", 3), ("pop", "link"), BACK]})
        self.assertEqual(wanted(program, ("f", 0)), ())
        self.assertEqual(wanted(program, ("f", 4)), (0, 2, 3))
        self.assertEqual(wanted(program, ("g", 4)), (0, 2, 3))

    def test_unknown_places(self):
        for value in (*ANY_VALUES, ("main", 6), ("main", -1), ("double", 2), ("gone", 0), ("main", True),
                      ("main", False), ["main", 0], (["main"], 0), ("main", [0]), ({}, 0)):
            if value != ("main", 0) or value[1] is False:
                with self.assertRaises(UnknownPlace) as caught:
                    wanted(twice(), value)
                self.assertTrue(same(caught.exception.value, value))
        self.assertEqual(wanted(program=twice(), place=("main", 0)), ())


class IdleTest(unittest.TestCase):
    def test_idle(self):
        self.assertTrue(same(idle(program=facts()), (("f", 0), ("main", 0))))
        self.assertTrue(same(idle(twice()), ()))

    def test_pure_lines_alone(self):
        told = {("num", 3, 1): True, ("copy", 3, 1): True, ("addr", 3, "main"): True, ("read", 3, 0): True,
                ("same", 3, 2): True, ("add", 3, 1, 2): False, ("sub", 3, 1, 2): False, ("mul", 3, 1, 2): False,
                ("less", 3, 2): False, ("in", 3): False, ("pop", 3): False, ("write", 0, 3): False, ("push", 3): False}
        for line, expected in told.items():
            with self.subTest(line):
                program = Program.of(("push", 0), line, STOP)
                self.assertEqual(idle(program), (("main", 1),) if expected else ())
                self.assertIs(is_idle(program, [("main", 1)]), expected)
                self.assertIs(is_idle(program, [("main", 2)]), False)

    def test_what_is_wanted_is_not_idle(self):
        for line in (("num", 3, 1), ("copy", 3, 1), ("addr", 3, "main"), ("read", 3, 0)):
            program = Program.of(("push", 0), line, ("same", 0, 0), ("push", 3), STOP)
            self.assertEqual(idle(program), (("main", 2),))

    def test_lines_that_keep_each_other_in_loops(self):
        program = Program.of(("mark", "a"), ("copy", 0, 1), ("copy", 1, 0), ("in", 2), ("same", 2, 3), ("unless", "a"),
                             STOP)
        both = [("main", 1), ("main", 2)]
        self.assertEqual(idle(program), tuple(both))
        self.assertIs(is_idle(program, both), True)
        self.assertIs(is_idle(program, both[::-1]), True)
        self.assertIs(is_idle(program, both[:1]), False)
        self.assertIs(is_idle(program, both[1:]), False)
        program = Program.of(("mark", "a"), ("copy", 0, 1), ("copy", 1, 0), ("out", 0), ("in", 2), ("same", 2, 3),
                             ("unless", "a"), STOP)
        self.assertEqual(idle(program), ())
        self.assertIs(is_idle(program, both), False)

    def test_one_line_more(self):
        program = Program.of(("num", 0, 1), ("copy", 1, 0), ("copy", 2, 1), ("same", 2, 2), ("num", 3, 4), ("out", 3),
                             STOP)
        places = [("main", at) for at in range(4)]
        self.assertEqual(idle(program), tuple(places))
        for first in range(4):
            self.assertIs(is_idle(program, places[first:]), True)
            self.assertIs(is_idle(program, tuple(places[:first + 1])), first == 3)
            self.assertIs(is_idle(program, [*places[first:], ("main", 4)]), False)
            self.assertIs(is_idle(program, [*places[first:], ("main", 5)]), False)
        self.assertIs(is_idle(program, [places[0], *places[2:]]), False)

    def test_lines_that_go_do_not_write(self):
        program = Program.of(("num", 0, 1), ("num", 0, 1), ("out", 0), STOP)
        self.assertIs(is_idle(program, [("main", 0)]), True)
        self.assertIs(is_idle(program, [("main", 1)]), False)
        self.assertIs(is_idle(program, [("main", 0), ("main", 1)]), False)

    def test_over_calls(self):
        functions = {"main": [("num", 0, 1), ("addr", 5, "f"), ("callr", 5), STOP], "f": [("copy", 1, 0), BACK]}
        program = Program(functions)
        self.assertEqual(idle(program), (("f", 0), ("main", 0)))
        self.assertIs(is_idle(program, [("main", 0), ("f", 0)]), True)
        self.assertIs(is_idle(program, [("main", 0)]), False)
        functions["main"].insert(3, ("out", 1))
        self.assertEqual(idle(Program(functions)), ())
        self.assertIs(is_idle(Program(functions), [("main", 0), ("f", 0)]), False)

    def test_goals_stay(self):
        program = Program({"main": [("addr", 5, "f"), ("num", 0, 7), ("addr", 5, "g"), ("callr", 5), STOP],
                           "f": [("out", 0), BACK], "g": [BACK]})
        self.assertEqual(idle(program), (("main", 0),))
        self.assertIs(is_idle(program, [("main", 0)]), True)
        self.assertIs(is_idle(program, [("main", 0), ("main", 1)]), False)

    def test_any_values(self):
        for value in ANY_VALUES:
            self.assertIs(is_idle(facts(), value), value in ((), []), value)
        right = [("f", 0), ("main", 0)]
        self.assertIs(is_idle(facts(), right), True)
        self.assertIs(is_idle(program=facts(), value=tuple(right)), True)
        wrong = [right + [right[0]], [("f", 0), ("f", 0)], [["f", 0]], [("f", False)], [("f", True)], {("f", 0): True},
                 [("f", 0), None], [("f", 0), ["main", 0]], "f", [("f", 1)], [("main", 5)], [("f", -2)],
                 [("gone", 0)], [[("f", 0)]], [(("f", 0),)], ("f", 0), [({}, 0)], [("f", {})]]
        for value in wrong:
            self.assertIs(is_idle(facts(), value), False, value)


class LinkWantedTest(unittest.TestCase):
    def test_link_wanted(self):
        self.assertTrue(same(link_wanted(program=twice(), name="main"), (0, 1, 4, 5)))
        self.assertTrue(same(link_wanted(twice(), "double"), (0, 1)))
        self.assertTrue(same(link_wanted(rings(), "main"), ()))
        self.assertEqual(link_wanted(rings(), "a"), (0, 4))

    def test_ends(self):
        self.assertEqual(link_wanted(Program.of(("in", 0), STOP), "main"), ())
        self.assertEqual(link_wanted(Program.of(("in", 0), ("tail", "main")), "main"), (0, 1))
        self.assertEqual(link_wanted(Program.of(("in", 0), ("callr", 0), STOP), "main"), ())
        self.assertEqual(link_wanted(Program.of(("push", 0), ("push", "link"), STOP), "main"), (0, 1))

    def test_ways(self):
        program = Program.of(("in", 0), ("if", "a"), ("out", 0), STOP, ("mark", "a"), ("out", 1), BACK)
        self.assertEqual(link_wanted(program, "main"), (0, 1, 4, 5, 6))
        program = Program.of(("mark", "a"), ("in", 0), ("unless", "a"), ("jump", "b"), ("mark", "b"), STOP)
        self.assertEqual(link_wanted(program, "main"), ())
        program = Program.of(("mark", "a"), ("in", 0), ("if", "b"), ("jump", "a"), ("mark", "b"), BACK)
        self.assertEqual(link_wanted(program, "main"), (0, 1, 2, 3, 4, 5))
        self.assertEqual(link_wanted(Program.of(("mark", "a"), ("in", 0), ("jump", "a")), "main"), ())

    def test_unknown_names(self):
        for value in ANY_VALUES:
            if value != "main":
                with self.assertRaises(UnknownName) as caught:
                    link_wanted(twice(), value)
                self.assertTrue(same(caught.exception.value, value))


class NotSweptTest(unittest.TestCase):
    def test_programs_that_are_not_swept(self):
        for program in not_swept():
            for action in (writes, known, idle):
                self.assertRaises(NotSwept, action, program)
            for value in ANY_VALUES:
                for action in (is_known, is_idle, wanted, link_wanted):
                    self.assertRaises(NotSwept, action, program, value)
