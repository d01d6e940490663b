import itertools
import random
import unittest

import reference
from foldlines.errors import InvalidLines, NotSwept
from foldlines.gains import best, cover, gain, is_gain, sites
from foldlines.lines import lines_size
from foldlines.outlining import outlined
from foldlines.programs import Program
from foldlines.runs import run
from samples import ANY_VALUES, again, not_swept, same, twice

STOP = ("stop",)
BACK = ("back",)
PUSH = ("push", "link")
POP = ("pop", "link")
TEXT = (("in", 0), ("add", 0, 0, 0), ("mul", 1, 0, 0), ("out", 1))
NUMBER = ("num", 0, 100)

# Lists of lines that may nowhere be called.
BARRED = (
    [("mark", "a")], [("jump", "a")], [("if", "a")], [("unless", "a")], [("in", 0), ("mark", "a"), ("in", 0)],
    [BACK, ("in", 0)], [STOP, STOP], [("tail", "f"), BACK], [PUSH], [POP], [PUSH, ("call", "f"), POP], [("pop", 0)],
    [("push", 0)], [("push", 0), BACK], [("push", 0), ("tail", "f")], [("read", 0, 0)], [("write", 0, 0)],
    [("push", 0), ("read", 0, 1), ("pop", 0)], [("push", 0), ("write", 1, 0), ("pop", 0)],
    [("push", 0), ("pop", 0), ("pop", 0)],
    [("pop", 0), STOP], [("push", 0), PUSH, STOP], [("push", 0), POP, BACK], [("push", 0), POP, ("pop", 0), STOP],
)
NO_LINES = (
    [()], [("num",)], [("num", 0)], [("num", 0, 2 ** 31)], [("num", True, 1)], [("num", 0, False)], [("in", 6)],
    [("in", -1)],
    [["in", 0]], ["stop"], [("stop", 0)], [("call", "F")], [("call", "nineteens")], [("call", 0)], [("add", 0, 1)],
    [("read", 0, 60)],
    [("push", "links")], [("none", 0)], [STOP, None], [("num", 0, None)], [None, STOP], ("stop",), "stop",
    {"stop": STOP},
)


class CoverTest(unittest.TestCase):
    def test_covers(self):
        self.assertTrue(same(cover(lines=[("in", 0), ("out", 0)]), (("in", 0), ("out", 0), BACK)))
        self.assertTrue(same(cover((("in", 0), BACK)), (("in", 0), BACK)))
        self.assertEqual(cover([("in", 0), STOP]), (("in", 0), STOP))
        self.assertEqual(cover([("in", 0), ("tail", "gone")]), (("in", 0), ("tail", "gone")))
        self.assertEqual(cover([("push", 0), STOP]), (("push", 0), STOP))
        self.assertEqual(cover([("push", 0), ("read", 1, 0), ("write", 0, 1), ("pop", 0)])[-1], BACK)

    def test_calls(self):
        for line in (("call", "gone"), ("callr", 0)):
            self.assertEqual(cover([line]), (PUSH, line, POP, BACK))
            self.assertEqual(cover([("in", 0), line, ("out", 0)]), (PUSH, ("in", 0), line, ("out", 0), POP, BACK))
            self.assertEqual(cover([line, STOP]), (line, STOP))

    def test_wrong_lines(self):
        for value in (*ANY_VALUES, *BARRED, *NO_LINES):
            if value not in ([STOP], (STOP,)):
                with self.assertRaises(InvalidLines, msg=value) as caught:
                    cover(value)
                self.assertTrue(same(caught.exception.value, value))
        self.assertEqual(cover([STOP]), (STOP,))

    def test_lines_stay(self):
        lines = [("in", 0)]
        cover(lines)
        self.assertEqual(lines, [("in", 0)])


class SitesTest(unittest.TestCase):
    def test_sites(self):
        expected = [(("main", 0), 2), (("main", 4), 2), (("main", 8), 2)]
        self.assertTrue(same(sites(program=again(), lines=TEXT), expected))
        self.assertTrue(same(sites(again(), list(TEXT)), expected))
        self.assertTrue(same(sites(again(), [("in", 5)]), []))
        self.assertEqual(sites(again(), [("call", "gone")]), [])

    def test_sites_that_overlap_with_themselves(self):
        program = Program.of(*[("in", 0)] * 5, STOP)
        self.assertEqual(sites(program, [("in", 0)] * 3), [(("main", at), 1) for at in range(3)])
        self.assertEqual(sites(program, [("in", 0)]), [(("main", at), -1) for at in range(5)])

    def test_the_link(self):
        program = Program({"main": [*TEXT, ("call", "f"), *TEXT, STOP],
                           "f": [*TEXT, PUSH, *TEXT, ("call", "g"), POP, *TEXT, BACK],
                           "g": [*TEXT, ("tail", "h")], "h": [*TEXT, STOP]})
        self.assertEqual(sites(program, TEXT), [(("f", 0), 0), (("f", 5), 2), (("f", 11), 0), (("g", 0), 0),
                                                (("h", 0), 2),
                                                (("main", 0), 2), (("main", 5), 2)])

    def test_the_link_on_one_way(self):
        program = Program.of(("in", 2), ("if", "a"), *TEXT, ("if", "b"), STOP, ("mark", "a"), *TEXT, STOP,
                             ("mark", "b"), BACK)
        self.assertEqual(sites(program, TEXT), [(("main", 2), 0), (("main", 9), 2)])

    def test_ends(self):
        for end in (BACK, ("tail", "f"), STOP):
            program = Program({"main": [("call", "f"), STOP], "f": [NUMBER, ("out", 0), end]})
            text = [NUMBER, ("out", 0), end]
            size = {BACK: 5, STOP: 5}.get(end, 6)
            self.assertEqual(sites(program, text), [(("f", 0), size - 2)])
        self.assertEqual(sites(Program.of(("in", 0), STOP), [STOP]), [(("main", 1), -1)])

    def test_what_stands_behind_ends(self):
        for end in (BACK, ("tail", "main"), STOP):
            text = [NUMBER, ("out", 0), end]
            program = Program.of(("in", 2), ("if", "a"), *text, ("mark", "a"), ("out", 1), BACK)
            self.assertEqual(sites(program, text), [(("main", 2), lines_size(text) - 2)])
            self.assertEqual(outlined(program, "f", text, [("main", 2)])["main"][2:4], (("tail", "f"), ("mark", "a")))

    def test_frames(self):
        program = Program({"main": [("call", "f"), NUMBER, STOP],
                           "f": [("push", 0), NUMBER, ("if", "a"), ("pop", 0), NUMBER, STOP,
                                                                        ("mark", "a"), NUMBER, STOP]})
        self.assertEqual(sites(program, [NUMBER, STOP]), [(("f", 4), 2)])

    def test_order_of_places(self):
        program = Program({"main": [("call", "b"), ("call", "a"), ("out", 0), STOP], "a": [("out", 0), BACK],
                           "b": [("out", 0), ("out", 0), BACK]})
        self.assertEqual([place for place, _ in sites(program, [("out", 0)])],
                         [("a", 0), ("b", 0), ("b", 1), ("main", 2)])

    def test_wrong_lines(self):
        for value in (*ANY_VALUES, *BARRED, *NO_LINES):
            if value not in ([STOP], (STOP,)):
                for action in (sites, gain, lambda program, lines: is_gain(program, lines, None)):
                    with self.assertRaises(InvalidLines, msg=value) as caught:
                        action(again(), value)
                    self.assertTrue(same(caught.exception.value, value))


class GainTest(unittest.TestCase):
    def told(self, program, text):
        """A gain that is held against all sets of sites, and against itself with one thing otherwise."""
        value = gain(program, text)
        self.assertTrue(reference.is_gain(program.functions, text, value))
        self.assertIs(is_gain(program, text, value), True)
        self.assertEqual(value[:2], reference.gain(program.functions, text))
        number, places, prices = value
        self.assertEqual(list(prices), sorted(prices))
        for other in ((number + 1, places, prices), (number - 1, places, prices), (number, list(places), prices),
                      (number, places[::-1], prices) if len(places) > 1 else None,
                      (number, places, list(prices.items())),
                      (number, places), (number, places, prices, None), list(value), (None, places, prices),
                      (places, number, prices), (number, places[1:], prices) if places else None,
                      (number, places + places[-1:], prices) if places else None,
                      (number, places, {**prices, ("main", 0): 0}), (number, places, {**prices, ("gone", 0): 1})):
            self.assertIs(is_gain(program, text, other), False, other)
        for place in prices:
            for price in (prices[place] + 1, prices[place] - 1, 0, -prices[place], None, True, str(prices[place])):
                if price is not True or prices[place] == 1:
                    self.assertIs(is_gain(program, text, (number, places, {**prices, place: price})), False)
            rest = {other: prices[other] for other in prices if other != place}
            self.assertIs(is_gain(program, text, (number, places, rest)), False)
        if places:
            made = outlined(program, "zz", text)
            self.assertEqual(program.size - made.size, number)
            self.assertEqual(run(made, [5, 6, 7], 200)[:2], run(program, [5, 6, 7], 200)[:2])
        return value

    def test_gain(self):
        value = self.told(again(), TEXT)
        self.assertTrue(same(value[:2], (1, (("main", 0), ("main", 4), ("main", 8)))))
        self.assertTrue(same(gain(program=again(), lines=list(TEXT)), value))
        self.assertEqual(sum(value[2].values()), 6)

    def test_no_sites(self):
        self.assertTrue(same(self.told(again(), [("in", 5)]), (-2, (), {})))
        self.assertTrue(same(self.told(again(), [STOP]), (-1, (), {})))
        self.assertEqual(self.told(again(), [("call", "gone")]), (-5, (), {}))

    def test_overlapping_sites(self):
        for many in range(1, 12):
            program = Program.of(*[NUMBER] * many, STOP)
            for length in (1, 2, 3):
                value = self.told(program, [NUMBER] * length)
                self.assertEqual(value[1], tuple(("main", at * length) for at in range(many // length)))
                self.assertEqual(value[0], many // length * (3 * length - 2) - 3 * length - 1)

    def test_the_least_of_overlapping_sites(self):
        text = [("in", 0)] * 5
        program = Program.of(*text, ("in", 0), ("in", 0), STOP)
        self.assertEqual(self.told(program, text)[1], (("main", 0),))
        self.assertEqual(self.told(program, text[:3])[1], (("main", 0), ("main", 3)))

    def test_sites_with_the_link(self):
        text = [("in", 0)] * 5
        lines = [*text[:4], ("if", "a"), *text, PUSH, *text, ("call", "main"), POP, ("mark", "a"), *text, BACK]
        value = self.told(Program.of(*lines), text)
        self.assertEqual(value[1], (("main", 5), ("main", 11), ("main", 19)))
        self.assertEqual(value[0], 1 + 3 + 1 - 6)
        value = self.told(Program.of(*lines), text[:3])
        self.assertEqual(value[1], (("main", 11),))
        self.assertEqual(value[0], 1 - 4)

    def test_ends_of_functions(self):
        program = Program({"main": [("call", "f"), ("call", "g"), NUMBER, ("out", 0), STOP],
                           "f": [("in", 1), NUMBER, ("out", 0), BACK],
                           "g": [("in", 2), NUMBER, ("out", 0), BACK]})
        value = self.told(program, [NUMBER, ("out", 0), BACK])
        self.assertTrue(same(value[:2], (1, (("f", 1), ("g", 1)))))
        self.assertEqual(self.told(program, [NUMBER, ("out", 0)])[1], (("main", 2),))

    def test_any_value(self):
        for value in (*ANY_VALUES, (0, (), {}), (-2, (), {}), (1, (("main", 0), ("main", 4), ("main", 8)), {})):
            self.assertIs(is_gain(program=again(), lines=TEXT, value=value), False)
            right = gain(again(), TEXT)
            for at in range(3):
                changed = (*right[:at], value, *right[at + 1:])
                self.assertIs(is_gain(again(), TEXT, changed), same(value, right[at]), value)
            self.assertIs(is_gain(again(), TEXT, (right[0], (value,), right[2])), False)
            self.assertIs(is_gain(again(), TEXT, (right[0], (*right[1], value), right[2])), False)
            self.assertIs(is_gain(again(), TEXT, (right[0], right[1], {**right[2], ("main", 12): value})), False)
        self.assertIs(is_gain(again(), [("in", 5)], (-2, (), {})), True)

    def test_bools(self):
        program = Program.of(*[NUMBER] * 3, STOP)
        right = (0, (("main", 0), ("main", 1)), {("main", 0): 1, ("main", 1): 1})
        self.assertEqual(gain(program, [NUMBER])[0], -1)
        three = {("main", at): 1 for at in range(3)}
        places = tuple(three)
        self.assertIs(is_gain(program, [NUMBER], (-1, places, three)), True)
        self.assertIs(is_gain(program, [NUMBER], (-1, places[:2], right[2])), False)
        self.assertIs(is_gain(program, [NUMBER], (-1, places, {**three, ("main", 2): True})), False)
        self.assertIs(is_gain(program, [NUMBER], (-1, (("main", False), *places[1:]), three)), False)
        self.assertIs(is_gain(program, [NUMBER], (-1, places, {("main", False): 1, ("main", True): 1,
                                                               ("main", 2): 1})), False)
        four = Program.of(*[NUMBER] * 4, STOP)
        self.assertEqual(gain(four, [NUMBER])[0], 0)
        value = gain(four, [NUMBER])
        self.assertIs(is_gain(four, [NUMBER], (False, *value[1:])), False)
        five = gain(Program.of(*[NUMBER] * 5, STOP), [NUMBER])
        self.assertIs(is_gain(Program.of(*[NUMBER] * 5, STOP), [NUMBER], (True, *five[1:])), False)
        self.assertIs(is_gain(Program.of(*[NUMBER] * 5, STOP), [NUMBER], five), True)

    def test_other_best_sites_and_prices(self):
        program = Program.of(*[NUMBER] * 3, STOP)
        text = [NUMBER] * 2
        for place in (("main", 0), ("main", 1)):
            for prices, right in (({("main", 1): 4}, True), ({("main", 0): 4}, False),
                                  ({("main", 0): 2, ("main", 1): 2}, False),
                                  ({("main", 0): 1, ("main", 1): 3}, False), ({("main", 2): 4}, False),
                                  ({("main", 1): 3, ("main", 3): 1}, False)):
                self.assertIs(is_gain(program, text, (4 - 7, (place,), prices)), right)
        self.assertIs(is_gain(program, text, (8 - 7, (("main", 0), ("main", 1)), {("main", 1): 8})), False)
        self.assertIs(is_gain(program, text, (4 - 7, (("main", 2),), {("main", 1): 4})), False)

    def test_sites_that_save_nothing_may_be_among_the_places(self):
        program = Program({"main": [("call", "f"), STOP], "f": [("in", 0), ("in", 0), BACK]})
        text = [("in", 0), BACK]
        self.assertEqual(sites(program, text), [(("f", 1), 0)])
        self.assertEqual(gain(program, text), (-2, (), {}))
        self.assertIs(is_gain(program, text, (-2, (), {})), True)
        self.assertIs(is_gain(program, text, (-2, (("f", 1),), {})), True)

    def test_all_rows_of_a_few_lines(self):
        chance = random.Random(1)
        for _ in range(30):
            lines = [chance.choice((NUMBER, NUMBER, ("in", 0))) for _ in range(chance.randrange(3, 9))]
            where = chance.randrange(len(lines))
            program = Program.of(*lines[:where], ("if", "a"), *lines[where:], STOP, ("mark", "a"), *lines, BACK)
            for text in itertools.product((NUMBER, ("in", 0)), repeat=chance.randrange(1, 4)):
                value = gain(program, text)
                self.assertEqual(value[:2], reference.gain(program.functions, text))
                self.assertTrue(reference.is_gain(program.functions, text, value))
                self.assertIs(is_gain(program, text, value), True)


class BestTest(unittest.TestCase):
    def told(self, *lines, **functions):
        program = Program({"main": lines, **functions})
        value = best(program)
        self.assertEqual(value, reference.best(program.functions))
        if value is not None:
            self.assertEqual(gain(program, value[0])[0], value[1])
        return value

    def test_best(self):
        self.assertTrue(same(best(program=again()), (TEXT, 1)))
        self.assertIs(best(twice()), None)
        self.assertIs(best(Program.of(STOP)), None)

    def test_no_gain(self):
        self.assertIs(self.told(*TEXT, *TEXT, STOP), None)
        self.assertIs(self.told(*[NUMBER] * 3, STOP), None)
        self.assertTrue(same(self.told(*[NUMBER] * 4, STOP), ((NUMBER, NUMBER), 1)))

    def test_the_most_lines_of_those_with_the_same_gain(self):
        lines = [("num", 0, 100), ("in", 1)]
        told = [(text, gain(Program.of(*lines * 5, STOP), text)[0]) for text in (lines[:1], lines, lines * 2)]
        self.assertEqual([number for _, number in told], [1, 5, 3])
        self.assertEqual(self.told(*lines * 5, STOP), (tuple(lines), 5))
        lines = [("in", 0), ("in", 1), ("in", 2), ("in", 3)] * 4
        program = Program.of(*lines, STOP)
        self.assertEqual([gain(program, lines[:many])[0] for many in (3, 4, 8)], [0, 3, 3])
        self.assertEqual(self.told(*lines, STOP), (tuple(lines[:8]), 3))

    def test_the_first_place_of_those_with_as_many_lines(self):
        texts = [[("in", at)] * 2 + [("out", at)] * 2 for at in range(3)]
        for row in itertools.permutations(texts):
            lines = [line for text in row for line in [*text * 3, ("less", 4, 5)]]
            self.assertEqual(self.told(*lines, STOP), (tuple(row[0]), 1))
        functions = {"f": texts[1] * 3 + [STOP], "g": texts[2] * 3 + [STOP]}
        self.assertEqual(self.told(*texts[0] * 3, ("call", "f"), ("call", "g"), STOP, **functions),
                         (tuple(texts[1]), 1))

    def test_the_first_place_of_the_best_ones(self):
        # The first place of one text is earlier, but a site there saves nothing, so that it is none of the best.
        one, other = [("in", 0)] * 2 + [("out", 0)] * 2, [("in", 1)] * 2 + [("out", 1)] * 2
        lines = [("if", "a"), *one, BACK, ("mark", "a"), *other * 3, ("less", 4, 5), *one * 3, STOP]
        program = Program.of(*lines)
        self.assertEqual(gain(program, one)[1], (("main", 20), ("main", 24), ("main", 28)))
        self.assertEqual(gain(program, one)[0], gain(program, other)[0])
        self.assertEqual(self.told(*lines), (tuple(other), 1))

    def test_texts_that_may_not_be_called(self):
        lines = [line for at in range(4) for line in [("push", 0), *[("in", 0)] * 3, ("out", at), ("pop", 1)]]
        self.assertIs(self.told(*lines, STOP), None)
        lines = [line for at in range(4) for line in [("push", 0), ("out", at), *[("in", 0)] * 3, ("pop", 1)]]
        self.assertIs(self.told(*lines, STOP), None)
        lines = [line for at in range(4) for line in [("push", 0), *[("in", 0)] * 3, ("pop", 1), ("out", at)]]
        self.assertEqual(self.told(*lines, STOP), (tuple(lines[:5]), 12 - 6))

    def test_ends_and_calls(self):
        end = [("in", 0), ("out", 0), ("out", 1), ("tail", "main")]
        functions = {name: [("less", at, 0), *end] for at, name in enumerate("abc")}
        calls = [("call", name) for name in "abc"]
        self.assertEqual(self.told(*calls, STOP, **functions), (tuple(end), 4))
        call = [("in", 0), ("call", "f"), ("in", 0), ("out", 0)]
        self.assertEqual(self.told(*call * 5, STOP, f=[BACK]), (tuple(call), 15 - 8))

    def test_not_swept(self):
        for program in not_swept():
            self.assertRaises(NotSwept, best, program)
            for value in ANY_VALUES:
                for action in (sites, gain):
                    self.assertRaises(NotSwept, action, program, value)
                self.assertRaises(NotSwept, is_gain, program, value, value)
