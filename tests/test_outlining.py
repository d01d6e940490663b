import unittest

from foldlines.covers import cover_of
from foldlines.errors import InvalidLines, InvalidName, InvalidPlaces, NotStraight, NotSwept, SameName, UnknownName
from foldlines.gains import best, gain, sites
from foldlines.lines import lines_size
from foldlines.outlining import inlined, outlined, rounds
from foldlines.programs import Program
from foldlines.runs import run
from foldlines.words import fresh_word, word_at
from samples import ANY_VALUES, again, is_right, not_swept, rings, run_alike, same, twice

STOP = ("stop",)
BACK = ("back",)
PUSH = ("push", "link")
POP = ("pop", "link")
TEXT = (("in", 0), ("add", 0, 0, 0), ("mul", 1, 0, 0), ("out", 1))
PLACES = [("main", 0), ("main", 4), ("main", 8)]


class OutlinedTest(unittest.TestCase):
    def told(self, program, name, text, places=None):
        made = outlined(program, name, text, places)
        self.assertTrue(is_right(made))
        self.assertEqual(made[name], cover_of(tuple(text)))
        saved = dict(sites(program, text))
        chosen = gain(program, text)[1] if places is None else places
        self.assertEqual(program.size - made.size, sum(saved[place] for place in chosen) - lines_size(made[name]))
        for inputs in ([], [3, 4, 5, 6], [0, 1]):
            self.assertTrue(run_alike(program, made, inputs, 99))
        return made

    def test_outlined(self):
        made = outlined(program=again(), name="g", lines=TEXT)
        self.assertTrue(same(made.functions, {"g": (*TEXT, BACK), "main": (*[("call", "g")] * 3, STOP)}))
        self.assertIs(type(made), Program)
        self.assertEqual(outlined(again(), "g", list(TEXT), None), made)
        self.told(again(), "g", TEXT)

    def test_places(self):
        for places in ([PLACES[0]], [PLACES[1]], PLACES[1:], PLACES, PLACES[::-1], tuple(PLACES[:2])):
            made = self.told(again(), "zz", TEXT, places)
            expected = [line for at in range(3) for line in ([("call", "zz")] if PLACES[at] in places else TEXT)]
            self.assertEqual(made["main"], (*expected, STOP))
        self.assertEqual(outlined(program=again(), name="g", lines=TEXT, places=PLACES), outlined(again(), "g", TEXT))

    def test_sites_with_the_link(self):
        program = Program({"main": [("call", "f"), *TEXT, STOP],
                           "f": [*TEXT, ("if", "a"), *TEXT, STOP, ("mark", "a"), BACK]})
        made = self.told(program, "b", TEXT, [("f", 0), ("f", 5), ("main", 1)])
        self.assertEqual(made.functions, {
            "b": (*TEXT, BACK), "main": (("call", "f"), ("call", "b"), STOP),
            "f": (PUSH, ("call", "b"), POP, ("if", "a"), ("call", "b"), STOP, ("mark", "a"), BACK)})

    def test_texts_with_calls(self):
        for call in ([("call", "f")], [("addr", 5, "f"), ("callr", 5)]):
            text = [("in", 0), *call, ("out", 0)]
            program = Program({"main": [*text, *text, STOP], "f": [("add", 0, 0, 0), BACK]})
            made = self.told(program, "g", text, [("main", 0), ("main", len(text))])
            self.assertEqual(made["g"], (PUSH, *text, POP, BACK))
            self.assertEqual(made["main"], (("call", "g"), ("call", "g"), STOP))

    def test_texts_with_ends(self):
        for end in (BACK, STOP, ("tail", "g")):
            program = Program({"main": [("call", "f"), ("call", "g"), STOP], "f": [("in", 0), ("out", 0), end],
                               "g": [("out", 0), end] if end != ("tail", "g") else [("out", 0), STOP]})
            made = self.told(program, "h", [("out", 0), end], [("f", 1)])
            self.assertEqual((made["f"], made["h"]), ((("in", 0), ("tail", "h")), (("out", 0), end)))

    def test_texts_that_stop_with_entries(self):
        program = Program.of(("in", 0), ("push", 0), ("out", 0), STOP)
        made = self.told(program, "h", [("push", 0), ("out", 0), STOP], [("main", 1)])
        self.assertEqual(made["main"], (("in", 0), ("tail", "h")))
        self.assertEqual(run(made, [4], 9), ((4,), "stop", 5))

    def test_sites_that_save_nothing(self):
        self.assertEqual(self.told(again(), "g", [STOP], [("main", 12)])["main"][-1], ("tail", "g"))
        made = self.told(again(), "g", TEXT[:1], [("main", 4)])
        self.assertEqual(made.size, again().size + 3)

    def test_overlapping_sites(self):
        program = Program.of(*[("in", 0)] * 5, STOP)
        text = [("in", 0)] * 2
        self.assertEqual(self.told(program, "g", text, [("main", 3), ("main", 1)])["main"],
                         (("in", 0), ("call", "g"), ("call", "g"), STOP))
        for places in ([("main", 1), ("main", 2)], [("main", 0), ("main", 3), ("main", 1)], [("main", 1), ("main", 1)]):
            self.assertRaises(InvalidPlaces, outlined, program, "g", text, places)

    def test_more_than_the_limits(self):
        names = ["f" + chr(97 + at) for at in range(23)]
        program = Program({"main": [*(("call", name) for name in names), *TEXT, STOP],
                           **{name: [BACK] for name in names}})
        made = self.told(program, "g", TEXT, [("main", 23)])
        self.assertEqual(len(made), 25)
        again_made = outlined(made, "h", [("in", 0), ("add", 0, 0, 0)], [("g", 0)])
        self.assertTrue(is_right(again_made))
        self.assertEqual(len(inlined(again_made, "h")), 25)

    def test_wrong_names(self):
        for value in (*ANY_VALUES, "Main", "a1", "", "nineteens", "a b"):
            if value not in ("main", "m", "link", "stop"):
                with self.assertRaises(InvalidName) as caught:
                    outlined(twice(), value, None, None)
                self.assertTrue(same(caught.exception.value, value))
        for name in ("main", "double"):
            with self.assertRaises(SameName) as caught:
                outlined(program=twice(), name=name, lines=None, places=None)
            self.assertTrue(same(caught.exception.name, name))

    def test_wrong_lines(self):
        for value in (*ANY_VALUES, [BACK, STOP], [("mark", "a")], [("pop", 0)], [PUSH], [("num", 0, None)]):
            if value not in ([STOP], (STOP,)):
                with self.assertRaises(InvalidLines) as caught:
                    outlined(again(), "g", value, None)
                self.assertTrue(same(caught.exception.value, value))
                self.assertRaises(InvalidLines, outlined, again(), "g", value, value)
                self.assertRaises(SameName, outlined, again(), "main", value, value)

    def test_wrong_places(self):
        wrong = [*ANY_VALUES, [("main", 12)], [("main", 1)], [("main", 0), ("main", 1)], [["main", 0]], ("main", 0),
                 [("main", False)], [("main", 0), ("main", 0)], [("main", 0), None], [("gone", 0)], {("main", 0): 2},
                 [(("main", 0), 2)], [("main", 4), ("main", True)], [("main", 0), ["main", 4]], [({}, 0)],
                 [("main", [0])]]
        for value in wrong:
            if value is not None:
                with self.assertRaises(InvalidPlaces, msg=value) as caught:
                    outlined(again(), "g", TEXT, value)
                self.assertTrue(same(caught.exception.value, value))

    def test_no_best_sites(self):
        for text in ([STOP], [("in", 5)], TEXT[:2]):
            with self.assertRaises(InvalidPlaces) as caught:
                outlined(again(), "g", text)
            self.assertTrue(same(caught.exception.value, ()))

    def test_arguments_stay(self):
        program, lines, places = again(), list(TEXT), list(PLACES[::-1])
        outlined(program, "g", lines, places)
        self.assertEqual((program, lines, places), (again(), list(TEXT), PLACES[::-1]))


class InlinedTest(unittest.TestCase):
    def told(self, name="f", **functions):
        program = Program(functions)
        made = inlined(program, name)
        self.assertTrue(is_right(made))
        self.assertNotIn(name, made)
        for inputs in ([], [3, 4, 5, 6], [0, 1]):
            self.assertTrue(run_alike(program, made, inputs, 99))
        return made.functions

    def test_inlined(self):
        made = inlined(program=twice(), name="double")
        self.assertTrue(same(made.functions, {"main": (("num", 0, 5), PUSH, ("add", 0, 0, 0), POP, ("out", 0), BACK)}))
        self.assertEqual(inlined(outlined(again(), "g", TEXT), "g"), again())

    def test_each_end(self):
        for end, call in ((BACK, ()), (STOP, (STOP,)), (("tail", "g"), (("call", "g"),))):
            more = {"g": [("out", 2), BACK]} if end == ("tail", "g") else {}
            made = self.told(main=[("in", 0), ("call", "f"), ("call", "h"), STOP], f=[("out", 0), end],
                             h=[("in", 1), ("tail", "f")],
                             **more)
            self.assertEqual(made.get("h"), None if end == STOP else (("in", 1), ("out", 0), end))
            rest = () if end == STOP else (("call", "h"), STOP)
            self.assertEqual(made["main"], (("in", 0), ("out", 0), *call, *rest))

    def test_link_lines(self):
        made = self.told(main=[("in", 0), ("call", "f"), ("call", "h"), STOP],
                         f=[PUSH, ("call", "g"), ("out", 0), POP, BACK],
                         g=[("in", 0), BACK], h=[("in", 1), ("tail", "f")])
        self.assertEqual(made["main"], (("in", 0), ("call", "g"), ("out", 0), ("call", "h"), STOP))
        self.assertEqual(made["h"], (("in", 1), PUSH, ("call", "g"), ("out", 0), POP, BACK))
        made = self.told(main=[("call", "f"), STOP], f=[PUSH, ("call", "g"), POP, ("tail", "g")], g=[("in", 0), BACK])
        self.assertEqual(made["main"], (("call", "g"), ("call", "g"), STOP))
        made = self.told(main=[("call", "f"), STOP], f=[PUSH, POP, BACK])
        self.assertEqual(made["main"], (STOP,))
        made = self.told(main=[("call", "f"), ("out", 0), STOP], f=[PUSH, ("out", 1), POP, STOP])
        self.assertEqual(made["main"], (("out", 1), STOP))

    def test_entries(self):
        made = self.told(main=[PUSH, ("in", 0), ("push", 0), ("call", "f"), ("pop", 0), POP, ("tail", "f")],
                         f=[PUSH, ("push", 0), ("push", 0), ("read", 1, 1), ("write", 0, 1), ("pop", 2), ("pop", 2),
                            ("out", 2), POP,
                            BACK])
        self.assertEqual(len(made["main"]), 5 + 7 + 10)
        made = self.told(main=[PUSH, ("in", 0), ("call", "f"), POP, BACK], f=[("push", 0), ("out", 0), STOP])
        self.assertEqual(made["main"], (PUSH, ("in", 0), ("push", 0), ("out", 0), STOP))

    def test_what_is_not_reached_any_more(self):
        made = self.told(main=[("in", 0), ("if", "a"), ("call", "f"), ("jump", "a"), ("mark", "a"), ("call", "g"),
                               STOP],
                         f=[STOP], g=[BACK])
        self.assertEqual(made["main"], (("in", 0), ("if", "a"), STOP, ("mark", "a"), ("call", "g"), STOP))
        made = self.told(main=[("call", "f"), ("call", "g"), STOP], f=[("in", 0), STOP], g=[BACK])
        self.assertEqual(made, {"main": (("in", 0), STOP)})
        self.assertEqual(self.told(main=[("call", "f"), STOP], f=[BACK]), {"main": (STOP,)})
        self.assertEqual(self.told(main=[("tail", "f")], f=[BACK]), {"main": (BACK,)})

    def test_addresses_of_other_functions(self):
        made = self.told(main=[("addr", 5, "g"), ("call", "f"), STOP], f=[("callr", 5), STOP], g=[("out", 5), BACK])
        self.assertEqual(made["main"], (("addr", 5, "g"), ("callr", 5), STOP))

    def test_a_function_in_a_ring(self):
        made = self.told(main=[("call", "f"), STOP], f=[("in", 0), ("tail", "g")], g=[("in", 1), ("tail", "f")])
        self.assertEqual(made, {"main": (("in", 0), ("call", "g"), STOP), "g": (("in", 1), ("in", 0), ("tail", "g"))})

    def not_straight(self, name, *lines, **functions):
        program = Program({"main": [("call", "f"), STOP], "f": lines, **functions})
        with self.assertRaises(NotStraight) as caught:
            inlined(program, name)
        self.assertTrue(same(caught.exception.name, name))

    def test_main(self):
        self.not_straight("main", BACK)
        self.not_straight("main", ("tail", "main"))

    def test_functions_with_addresses(self):
        self.not_straight("f", ("addr", 0, "f"), BACK)
        self.not_straight("g", ("addr", 0, "g"), ("tail", "g"), g=[BACK])
        self.not_straight("g", ("call", "g"), STOP, g=[("in", 0), BACK], main=[("addr", 5, "g"), ("call", "f"), STOP])

    def test_functions_that_name_themselves(self):
        self.not_straight("f", ("in", 0), ("tail", "f"))
        self.not_straight("f", PUSH, ("call", "f"), POP, BACK)
        self.not_straight("f", ("call", "f"), STOP)

    def test_jumps_and_ends(self):
        self.not_straight("f", ("mark", "a"), ("in", 0), ("if", "a"), BACK)
        self.not_straight("f", ("mark", "a"), ("in", 0), ("jump", "a"))
        self.not_straight("f", ("in", 0), ("unless", "a"), BACK, ("mark", "a"), STOP)

    def test_link_lines_elsewhere(self):
        self.not_straight("f", ("in", 0), PUSH, ("call", "g"), POP, BACK, g=[BACK])
        self.not_straight("f", PUSH, ("call", "g"), POP, ("in", 0), BACK, g=[BACK])
        self.not_straight("f", PUSH, POP, PUSH, POP, BACK)
        self.not_straight("f", PUSH, PUSH, POP, POP, BACK)
        self.not_straight("f", PUSH, ("in", 0), STOP)
        self.not_straight("f", PUSH, STOP)
        self.not_straight("f", ("in", 0), PUSH, STOP)
        self.not_straight("f", PUSH, ("call", "g"), POP, PUSH, ("call", "g"), POP, BACK, g=[BACK])
        self.not_straight("f", PUSH, POP, ("call", "g"), STOP, g=[BACK])

    def test_unknown_names(self):
        for value in ANY_VALUES:
            if value != "main":
                with self.assertRaises(UnknownName) as caught:
                    inlined(twice(), value)
                self.assertTrue(same(caught.exception.value, value))

    def test_more_than_the_limits(self):
        text = [("in", 0)] * 50
        program = Program({"main": [*[("call", "f")] * 20, STOP], "f": [*text, BACK]})
        made = inlined(program, "f")
        self.assertTrue(is_right(made))
        self.assertEqual((len(made["main"]), made.size), (1001, 1001))

    def test_arguments_stay(self):
        program = twice()
        inlined(program, "double")
        self.assertEqual(program, twice())


class RoundsTest(unittest.TestCase):
    def check(self, program):
        """Holds each round against the one before, and returns the names."""
        before, told = program, list(rounds(program))
        for name, lines, number, made in told:
            self.assertEqual(best(before), (lines, number))
            self.assertEqual(name, fresh_word(before.names))
            self.assertEqual(outlined(before, name, lines), made)
            self.assertEqual(before.size - made.size, number)
            self.assertTrue(is_right(made))
            self.assertTrue(run_alike(program, made, [3, 4, 5], 200))
            before = made
        self.assertIs(best(before), None)
        return [row[0] for row in told]

    def test_rounds(self):
        told = list(rounds(program=again()))
        self.assertTrue(same(told[0][:3], ("a", TEXT, 1)))
        self.assertEqual(told[0][3], outlined(again(), "a", TEXT))
        self.assertEqual(len(told), 1)
        self.assertEqual(self.check(again()), ["a"])
        self.assertEqual(list(rounds(rings())), [])

    def test_fresh_names(self):
        texts = [line for at in range(3) for line in [("in", at), ("in", at), ("add", at, 1, 2), ("out", at)] * 4]
        self.assertEqual(self.check(Program.of(*texts, STOP)), ["a", "b", "c"])
        program = Program({"main": [*texts, ("call", "a"), ("call", "c"), STOP], "a": [BACK], "c": [BACK]})
        self.assertEqual(self.check(program), ["b", "d", "e"])
        names = [chr(97 + at) for at in range(23)]
        program = Program({"main": [*(("call", name) for name in names), *texts[:32], STOP],
                           **{name: [BACK] for name in names}})
        self.assertEqual(self.check(program), ["x", "y"])

    def test_rounds_within_rounds(self):
        part = [("in", 0), ("out", 0), ("out", 1), ("less", 0, 1)]
        whole = [*part, ("call", "f"), *part]
        names = self.check(Program({"main": [*whole * 3, ("in", 5), *part, ("in", 5), STOP], "f": [BACK]}))
        self.assertEqual(names, ["a", "b"])

    def test_not_swept(self):
        for program in not_swept():
            with self.assertRaises(NotSwept):
                next(iter(rounds(program)))
            for value in ANY_VALUES:
                self.assertRaises(NotSwept, outlined, program, value, value, value)
                self.assertRaises(NotSwept, inlined, program, value)


class WordsTest(unittest.TestCase):
    def test_word_order(self):
        told = [word_at(number) for number in range(800)]
        self.assertEqual(told, sorted(told, key=lambda word: (len(word), word)))
        self.assertEqual(len(set(told)), 800)
        self.assertEqual((told[0], told[25], told[26], told[51], told[52], told[701], told[702]),
                         ("a", "z", "aa", "az", "ba", "zz", "aaa"))

    def test_fresh_words(self):
        self.assertEqual(fresh_word([]), "a")
        self.assertEqual(fresh_word(("b", "a", "d", "main")), "c")
        self.assertEqual(fresh_word([chr(97 + at) for at in range(26)] + ["aa"]), "ab")
