import unittest

import reference
import reference_more as more
from foldlines.ends import shared, sharing
from foldlines.errors import NotSwept, UnknownName
from foldlines.lines import lines_size
from foldlines.programs import Program
from samples import ANY_VALUES, ends, is_right, not_swept, rings, run_alike, same, twice

STOP = ("stop",)
BACK = ("back",)
PUSH = ("push", "link")
POP = ("pop", "link")
OUT = ("out", 0)
OUTS = [("out", 0), ("out", 1), ("out", 2)]


def branches(*runs, last=(STOP,)):
    """A function whose branches are these runs; each one ends by itself."""
    lines = [("in", 0), ("less", 0, 1)]
    for at, run in enumerate(runs):
        label = "m" + "abcdefghij"[at]
        lines += [("if", label), *run, ("mark", label)]
    return [*lines, *last]


class SharingTest(unittest.TestCase):
    def told(self, *lines, **functions):
        """What sharing tells of main, and the lines of main that shared makes."""
        program = Program({"main": lines, **functions})
        value = sharing(program, "main")
        self.assertTrue(same(value, more.sharing(program["main"])))
        made = shared(program)
        self.assertTrue(is_right(made))
        self.assertEqual(made["main"], more.shared(program["main"], reference.words))
        saved = 0
        for name in program.names:
            told = [lines_size(program[name][end + 1 - k:end + 1]) - 2 for end, _, k in sharing(program, name)]
            self.assertEqual(sum(told), more.most_shared(program[name]))
            saved += sum(told)
        self.assertEqual(program.size - made.size, saved)
        for inputs in ([], [1], [-1, 2, 3], [0, -4, 5, -6]):
            self.assertTrue(run_alike(program, made, inputs, 99))
        return value, made["main"]

    def test_sharing(self):
        self.assertTrue(same(sharing(program=ends(), name="main"), ((11, 6, 3),)))
        lines = list(ends()["main"])
        lines[9:] = [("jump", "b")]
        lines.insert(4, ("mark", "b"))
        self.assertTrue(same(shared(program=ends()).functions, {"main": tuple(lines)}))
        self.assertEqual(self.told(*ends()["main"])[1], tuple(lines))

    def test_nothing_is_shared(self):
        for program in (twice(), rings(), Program.of(STOP), Program.of(*OUTS, BACK)):
            for name in program.names:
                self.assertTrue(same(sharing(program, name), ()))
            self.assertEqual(shared(program), program)

    def test_sizes_of_two_and_of_three(self):
        self.assertEqual(self.told(*branches([OUT, STOP], last=(OUT, STOP)))[0], ())
        self.assertEqual(self.told(*branches([OUT, OUT, STOP], last=(OUT, OUT, STOP)))[0], ((9, 5, 3),))
        self.assertEqual(self.told(*branches([STOP], last=(STOP,)))[0], ())
        self.assertEqual(self.told(*branches([("tail", "f")], last=(("tail", "f"),)), f=[BACK])[0], ())
        self.assertEqual(self.told(*branches([OUT, ("tail", "f")], last=(OUT, ("tail", "f"))), f=[BACK])[0],
                         ((7, 4, 2),))
        self.assertEqual(self.told(*branches([("num", 0, 9), STOP], last=(("num", 0, 9), STOP)))[0], ((7, 4, 2),))

    def test_each_end(self):
        for end in (STOP, BACK, ("tail", "f"), ("jump", "start")):
            more_functions = {"f": [BACK]} if end == ("tail", "f") else {}
            value, made = self.told(("mark", "start"), *branches([*OUTS, STOP], [*OUTS, end], last=[("in", 1)]),
                                    ("if", "start"), ("in", 1), *OUTS, end, **more_functions)
            self.assertEqual(value[-1], (21, 7 if end == STOP else 13, 4))
            self.assertEqual(made[-2:], (("in", 1), ("jump", "a")))

    def test_ends_that_differ(self):
        self.assertEqual(self.told(*branches([*OUTS, STOP], last=(*OUTS, BACK)))[0], ())
        self.assertEqual(self.told(*branches([*OUTS, ("tail", "f")], last=(*OUTS, ("tail", "g"))), f=[STOP],
                                   g=[BACK])[0], ())
        self.assertEqual(self.told(("mark", "x"), ("in", 2), ("mark", "y"),
                                   *branches([*OUTS, ("jump", "x")], last=(*OUTS, ("jump", "y"))))[0], ())

    def test_runs_that_are_equal_as_a_whole(self):
        value, made = self.told(*branches([*OUTS, STOP], last=[*OUTS, STOP]))
        self.assertEqual(value, ((11, 6, 4),))
        self.assertEqual(made, (*branches([("mark", "a"), *OUTS, STOP], last=[("jump", "a")]),))

    def test_a_run_that_is_the_end_of_another_one(self):
        value, made = self.told(*branches([*OUTS, *OUTS, STOP], last=[*OUTS, STOP]))
        self.assertEqual(value, ((14, 9, 4),))
        self.assertEqual(made, (*branches([*OUTS, ("mark", "a"), *OUTS, STOP], last=[("jump", "a")]),))
        value, made = self.told(*branches([*OUTS, STOP], last=[*OUTS, *OUTS, STOP]))
        self.assertEqual(value, ((14, 6, 4),))
        self.assertEqual(made, (*branches([("mark", "a"), *OUTS, STOP], last=[*OUTS, ("jump", "a")]),))

    def test_the_run_of_a_whole_function(self):
        lines = [*OUTS, ("jump", "l"), ("mark", "l"), ("in", 0), ("less", 0, 1), ("if", "m"), *OUTS, ("jump", "l"),
                 ("mark", "m"), STOP]
        value, made = self.told(*lines)
        self.assertEqual(value, ((11, 3, 4),))
        self.assertEqual(made[:2], (("mark", "a"), ("out", 0)))

    def test_borders_of_runs(self):
        for border in (("mark", "l"), ("if", "l"), ("unless", "l")):
            named = ("if", "l") if border == ("mark", "l") else ("in", 1)
            marked = [] if border == ("mark", "l") else [("mark", "l"), BACK]
            value, _ = self.told(*branches([named, *OUTS, border, *OUTS, STOP], last=[*OUTS, *OUTS, STOP]), *marked)
            self.assertEqual(value, ((19, 11, 4),))
            value, _ = self.told(*branches([*OUTS, *OUTS, STOP], last=[named, *OUTS, border, *OUTS, STOP]), *marked)
            self.assertEqual(value, ((19, 9, 4),))

    def test_borders_that_are_the_same(self):
        for word in ("if", "unless"):
            lines = [("in", 0), (word, "x"), *OUTS, STOP, ("mark", "x"), ("in", 0), ("less", 0, 1), ("if", "y"),
                     ("in", 1), (word, "z"), *OUTS, STOP, ("mark", "y"), ("in", 2), (word, "z"), *OUTS, STOP,
                     ("mark", "z"), BACK]
            value, _ = self.told(*lines)
            self.assertEqual(value, ((15, 5, 4), (22, 5, 4)))

    def test_the_greatest_of_several(self):
        value, made = self.told(*branches([("out", 2), STOP], [("out", 1), ("out", 2), STOP], [*OUTS, STOP],
                                          last=[("in", 3), *OUTS, STOP]))
        self.assertEqual(value, ((15, 9, 3), (21, 15, 4)))
        self.assertEqual(made[-2:], (("in", 3), ("jump", "b")))

    def test_several_that_share_as_much(self):
        runs = [[("in", 3), *OUTS, STOP], [("in", 4), *OUTS, STOP], [("in", 5), *OUTS, STOP]]
        value, made = self.told(*branches(*runs, last=[*OUTS, STOP]))
        self.assertEqual(value, ((14, 7, 4), (21, 7, 4), (26, 7, 4)))
        self.assertEqual([line for line in made if line == ("jump", "a")], [("jump", "a")] * 3)
        self.assertEqual([line for line in made if line[0] == "mark"].count(("mark", "a")), 1)

    def test_chains(self):
        one = [*OUTS, STOP]
        two = [("in", 1), ("in", 2), *OUTS, STOP]
        three = [("in", 5), ("in", 1), ("in", 2), *OUTS, STOP]
        value, made = self.told(*branches(one, two, three, last=[("in", 5), ("in", 5), *three]))
        self.assertEqual([row[2] for row in value], [4, 6, 7])
        self.assertEqual(made, (*branches([("mark", "a"), *OUTS, STOP],
                                          [("mark", "b"), ("in", 1), ("in", 2), ("jump", "a")],
                                          [("mark", "c"), ("in", 5), ("jump", "b")],
                                          last=[("in", 5), ("in", 5), ("jump", "c")]),))

    def test_two_places_in_one_run(self):
        runs = [[("in", 3), *OUTS, STOP], [("in", 4), *OUTS, STOP], [("in", 4), *OUTS[1:], STOP]]
        value, made = self.told(*branches(*runs))
        self.assertEqual(value, ((14, 7, 4), (20, 7, 3)))
        self.assertEqual(made[3:9], (("in", 3), ("mark", "a"), OUTS[0], ("mark", "b"), *OUTS[1:]))

    def test_rows_that_differ_ahead_of_a_stop(self):
        self.assertEqual(self.told(*branches([("push", 0), *OUTS, STOP], last=[*OUTS, STOP]))[0], ())
        self.assertEqual(self.told(*branches([PUSH, *OUTS, STOP], last=[("push", 0), *OUTS, STOP]))[0], ())
        self.assertEqual(self.told(*branches([("push", 0), *OUTS, STOP], last=[("in", 5), ("push", 0), *OUTS,
                                                                              STOP]))[0], ((14, 7, 5),))
        self.assertEqual(self.told(*branches([("push", 0), ("push", 1), ("pop", 2), *OUTS, STOP],
                                             last=[("push", 2), ("in", 0), *OUTS, STOP]))[0], ((16, 9, 4),))
        self.assertEqual(self.told(*branches([("push", 0), *OUTS, STOP], [*OUTS, STOP],
                                             last=[("push", 5), *OUTS, STOP]))[0], ((19, 7, 4),))

    def test_rows_of_a_later_and_an_earlier_line(self):
        lines = branches([*OUTS, ("in", 0), ("push", 0), ("less", 0, 1), ("if", "z"), *OUTS, STOP],
                         last=[*OUTS, STOP, ("mark", "z"), ("pop", 2), STOP])
        value, _ = self.told(*lines)
        self.assertEqual(value, ())

    def test_the_link(self):
        run = [PUSH, ("call", "f"), POP, ("out", 1), BACK]
        value, made = self.told(*branches([("in", 1), *run], last=run), f=[BACK])
        self.assertEqual(value, ((14, 8, 5),))
        value, made = self.told(*branches([("call", "f"), *OUTS, STOP], last=[*OUTS, STOP]), f=[BACK])
        self.assertEqual(value, ((12, 7, 4),))

    def test_marks_that_stand_there_already(self):
        lines = [("in", 0), ("if", "x"), ("mark", "x"), ("mark", "y"), *OUTS, ("if", "y"), *OUTS, ("jump", "x")]
        self.assertEqual(self.told(*lines)[0], ())
        lines = [("in", 0), ("if", "x"), ("out", 3), ("mark", "x"), *OUTS, STOP]
        value, made = self.told(*lines[:1], ("if", "z"), *lines[1:], ("mark", "z"), *OUTS, STOP)
        self.assertEqual(value, ((13, 8, 4),))
        self.assertEqual(made[3:7], (("out", 3), ("mark", "x"), ("mark", "a"), OUTS[0]))

    def test_labels_that_are_taken(self):
        runs = [[("in", 3), *OUTS, STOP], [("in", 4), *OUTS, STOP], [("in", 4), *OUTS[1:], STOP]]
        lines = [("in", 5), ("if", "a"), ("if", "c"), ("mark", "a"), ("mark", "c"), *branches(*runs)]
        self.assertEqual([line[1] for line in self.told(*lines)[1] if line[0] == "jump"], ["b", "d"])
        labels = [("mark", letter) for letter in "abcdefghijklmnopqrstuvwxyz"]
        ifs = [("if", letter) for letter in "abcdefghijklmnopqrstuvwxyz"]
        program = [("in", 5), *ifs[:20], *labels[:20], *branches(*runs[:1], last=runs[0])]
        self.assertEqual(self.told(*program)[1][-1], ("jump", "u"))

    def test_labels_in_the_order_of_the_ends(self):
        # The second end goes on in the run of a later one than the first does, and the third ahead of both.
        runs = [[("in", 1), ("out", 1), ("out", 1), ("out", 1), BACK], [("in", 2), *OUTS, STOP],
                [("in", 3), *OUTS, STOP], [("out", 1), ("out", 1), ("out", 1), BACK]]
        _, made = self.told(*branches(*runs))
        self.assertEqual([line for line in made if line[1:] in (("a",), ("b",))],
                         [("mark", "b"), ("mark", "a"), ("jump", "a"), ("jump", "b")])

    def test_functions_by_themselves(self):
        lines = branches([*OUTS, STOP], last=[*OUTS, STOP])
        program = Program({"main": [("call", "f"), *lines], "f": lines})
        made = shared(program)
        self.assertEqual(made["f"], tuple(branches([("mark", "a"), *OUTS, STOP], last=[("jump", "a")])))
        self.assertEqual(made["main"][1:], made["f"])
        self.assertEqual((sharing(program, "f"), sharing(program, "main")), (((11, 6, 4),), ((12, 7, 4),)))

    def test_a_function_that_stays(self):
        made = shared(Program({"main": [("call", "f"), *OUTS, STOP], "f": [*OUTS, STOP]}))
        self.assertEqual(made.size, 2 + 4 + 4)

    def test_unknown_names(self):
        for value in ANY_VALUES:
            if value != "main":
                with self.assertRaises(UnknownName) as caught:
                    sharing(ends(), value)
                self.assertTrue(same(caught.exception.value, value))

    def test_more_than_the_limits(self):
        lines = branches(*[[*OUTS, STOP]] * 9)
        program = Program.of_any_size({"main": lines})
        made = shared(program)
        self.assertTrue(is_right(made))
        self.assertEqual(program.size - made.size, 8 * 2)

    def test_arguments_stay(self):
        program = ends()
        shared(program)
        self.assertEqual(program, ends())


class NotSweptTest(unittest.TestCase):
    def test_programs_that_are_not_swept(self):
        for program in not_swept():
            self.assertRaises(NotSwept, shared, program)
            for value in ANY_VALUES:
                self.assertRaises(NotSwept, sharing, program, value)
