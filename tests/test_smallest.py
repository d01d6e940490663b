import unittest

import samples
from foldlines.ends import shared
from foldlines.errors import InvalidRow, InvalidWord, NotSwept
from foldlines.folds import folded
from foldlines.gains import best
from foldlines.outlining import outlined
from foldlines.passes import cheaper, dropped
from foldlines.patterns import best_near, outlined_near
from foldlines.programs import Program
from foldlines.smallest import PASSES, passed, replayed, smallest
from foldlines.straightening import straightened
from foldlines.words import fresh_word
from samples import ANY_VALUES, again, ends, facts, is_right, loop, not_swept, rings, run_alike, same, seen, twice

STOP = ("stop",)
PLAIN = {"straightened": straightened, "dropped": dropped, "cheaper": cheaper, "folded": folded, "shared": shared}


def near():
    ahead, behind = [("in", 0), ("add", 0, 0, 0)], [("mul", 1, 1, 0), ("out", 1), ("out", 0)]
    return Program.of(*[line for number in (1, 2, 100) for line in (*ahead, ("num", 1, number), *behind)], STOP)


def crooked():
    return Program.of(("in", 0), ("if", "a"), ("jump", "b"), ("mark", "a"), ("out", 0), ("mark", "b"), ("out", 1), STOP)


# For each word a program that its pass makes smaller, and that no other pass does.
EACH = {"straightened": crooked, "dropped": lambda: Program.of(("num", 0, 5), STOP),
        "cheaper": lambda: Program.of(("num", 0, 100), ("num", 1, 100), ("out", 0), ("out", 1), STOP),
        "folded": rings, "shared": ends, "best": again, "near": near}
PROGRAMS = (twice, rings, seen, facts, again, ends, loop, near, crooked)


class PassedTest(unittest.TestCase):
    def test_passes(self):
        self.assertTrue(same(PASSES, ("straightened", "dropped", "cheaper", "folded", "shared", "best", "near")))

    def test_passes_with_functions_of_their_names(self):
        for make in PROGRAMS:
            for word, action in PLAIN.items():
                self.assertEqual(passed(make(), word), action(make()))
        self.assertEqual(passed(program=rings(), word="folded"), folded(rings()))

    def test_best(self):
        made = passed(again(), "best")
        self.assertEqual(made, outlined(again(), "a", best(again())[0]))
        program = Program({"main": [("call", "a"), *again()["main"]], "a": [("call", "c"), STOP], "c": [STOP]})
        self.assertEqual(passed(program, "best"), outlined(program, "b", best(program)[0]))

    def test_near(self):
        made = passed(near(), "near")
        self.assertEqual(made, outlined_near(near(), "a", best_near(near())[0]))
        program = Program({"main": [("call", "b"), *near()["main"]], "a": [("out", 5), STOP],
                           "b": [("call", "a"), STOP]})
        self.assertEqual(passed(program, "near"), outlined_near(program, "c", best_near(program)[0]))

    def test_passes_that_change_nothing(self):
        program = Program.of(STOP)
        for word in PASSES:
            self.assertEqual(passed(program, word), program)
        for word in ("best", "near"):
            self.assertEqual(passed(twice(), word), twice())

    def test_each_program_becomes_smaller_by_one_pass(self):
        for word, make in EACH.items():
            smaller = [other for other in PASSES if passed(make(), other).size < make().size]
            self.assertEqual(smaller, [word])

    def test_wrong_words(self):
        for value in (*ANY_VALUES, *PASSES, "Best", "best ", "swept", "core", "outlined", ["best"], ("best",)):
            if value not in PASSES:
                with self.assertRaises(InvalidWord) as caught:
                    passed(again(), value)
                self.assertTrue(same(caught.exception.value, value))


class SmallestTest(unittest.TestCase):
    def told(self, program):
        value = smallest(program)
        made, row = value
        self.assertTrue(same(row, tuple(row)))
        self.assertTrue(is_right(made))
        now = program
        for word in row:
            first = [other for other in PASSES if passed(now, other).size < now.size][0]
            self.assertEqual(word, first)
            now = passed(now, word)
        self.assertEqual(now, made)
        self.assertEqual([word for word in PASSES if passed(made, word).size < made.size], [])
        self.assertEqual(replayed(program, row), made)
        for inputs in ([], [3, -1, 4]):
            self.assertTrue(run_alike(program, made, inputs, 99))
        return value

    def test_smallest(self):
        self.assertEqual(smallest(program=facts())[1], ("dropped",))
        self.assertTrue(same(self.told(twice()), (twice(), ())))
        for make in PROGRAMS:
            self.told(make())

    def test_each_word(self):
        for word, make in EACH.items():
            self.assertEqual(self.told(make())[1][0], word)

    def test_rows_of_several_words(self):
        lines = [("num", 4, 3), ("num", 0, 100), ("out", 0), ("num", 1, 100), ("out", 1), ("out", 1), ("out", 1)]
        program = Program({"main": [("call", "f"), ("call", "g"), ("in", 0), ("if", "e"), *lines, STOP, ("mark", "e"),
                                    *lines, STOP],
                           "f": [*lines, ("back",)], "g": [*lines, ("back",)]})
        value = self.told(program)
        self.assertEqual(value[1][:3], ("dropped", "cheaper", "folded"))

    def test_from_the_first_word_on_each_time(self):
        # Where two ends have become one, a branch to the one and the other is not needed any more.
        run = [("out", 0), ("out", 1), ("out", 2), STOP]
        program = Program.of(("in", 0), ("same", 0, 1), ("if", "a"), *run, ("mark", "a"), *run)
        made, row = self.told(program)
        self.assertEqual((row, made["main"]), (("shared", "straightened", "dropped"), (("in", 0), *run)))

    def test_programs_of_the_samples(self):
        self.assertEqual(smallest(samples.rings())[0].size, 11)
        self.assertEqual(smallest(crooked())[1], ("straightened",))


class ReplayedTest(unittest.TestCase):
    def test_replayed(self):
        self.assertEqual(replayed(program=facts(), row=["dropped"]), dropped(facts()))
        self.assertEqual(replayed(facts(), ("dropped",)), dropped(facts()))
        self.assertEqual(replayed(facts(), []), facts())
        self.assertEqual(replayed(twice(), ()), twice())

    def test_rows_that_are_not_those_of_smallest(self):
        program = facts()
        self.assertEqual(replayed(program, ["cheaper"]), cheaper(program))
        self.assertEqual(replayed(program, ["cheaper", "dropped"]), dropped(cheaper(program)))

    def wrong(self, program, row, index):
        with self.assertRaises(InvalidRow) as caught:
            replayed(program, row)
        self.assertTrue(same(caught.exception.index, index))

    def test_words_that_make_nothing_smaller(self):
        self.wrong(facts(), ["dropped", "dropped"], 1)
        self.wrong(facts(), ["dropped", "dropped", None], 1)
        self.wrong(facts(), ("folded", "dropped"), 0)
        for word in PASSES:
            self.wrong(twice(), [word], 0)

    def test_values_that_are_no_words(self):
        for value in (*ANY_VALUES, "Dropped", ["dropped"], ("dropped",)):
            self.wrong(facts(), [value], 0)
            self.wrong(facts(), ["dropped", value, "dropped"], 1)
            self.wrong(facts(), ["shared", value], 0)

    def test_arguments_stay(self):
        row = ["dropped"]
        replayed(facts(), row)
        self.assertEqual(row, ["dropped"])


class NotSweptTest(unittest.TestCase):
    def test_programs_that_are_not_swept(self):
        for program in not_swept():
            self.assertRaises(NotSwept, smallest, program)
            for value in (*ANY_VALUES, *PASSES):
                self.assertRaises(NotSwept, passed, program, value)
                self.assertRaises(NotSwept, replayed, program, [value])
            self.assertRaises(NotSwept, replayed, program, [])


class FreshNamesTest(unittest.TestCase):
    def test_fresh_names(self):
        self.assertEqual(fresh_word(["a", "b", "main"]), "c")
