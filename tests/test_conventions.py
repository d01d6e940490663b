"""What the document promises of all functions and methods alike: kinds of values, names of arguments, errors first."""

import copy
import inspect
import unittest

import samples
from foldlines import benches, benchlogs, consoles, ends, facts, flow, folds, gains, holders, lengths, likeness, links
from foldlines import outlining, passes, patterns, runs, smallest, straightening, stretches, sweeping
from foldlines.errors import NotSwept
from foldlines.programs import BareProgram, Program
from foldlines.sweeping import is_swept
from samples import ANY_VALUES, again, bare, facts as fact_program, loop, not_swept, rings, same, seen, twice

STOP = ("stop",)
TEXT = [("in", 0), ("add", 0, 0, 0), ("mul", 1, 0, 0), ("out", 1)]
PATTERN = [("in", 0), ("num", 1, None), ("out", 0)]
NEAR = [line for number in (1, 2) for line in (("num", 0, number), *[("out", 0)] * 9)]

# Calls of all functions: what is called, and with which values.
CALLS = [
    (flow.reached, twice, "main"), (flow.ways, loop, "main"), (flow.rows, twice, "main"), (flow.own, twice, "main"),
    (flow.live, rings), (runs.run, twice, [1, 2], 99), (holders.holds, seen), (holders.goals, seen, ("main", 3)),
    (holders.shown, seen), (facts.writes, fact_program), (facts.known, fact_program),
    (facts.is_known, fact_program, {("f", 0): {}}), (facts.wanted, fact_program, ("main", 3)),
    (facts.idle, fact_program), (facts.is_idle, fact_program, [("f", 0), ("main", 0)]),
    (facts.link_wanted, twice, "main"), (sweeping.swept, twice), (sweeping.is_swept, twice),
    (sweeping.swept, bare), (straightening.straightened, loop), (passes.cheaper, fact_program, None),
    (passes.dropped, fact_program, [("f", 0)]), (folds.classes, rings),
    (folds.are_closed, rings, (("a", "b"), ("main",))),
    (folds.unlike, rings, "a", "main"), (folds.is_unlike, rings, "a", "main", (("a", "main", None),)),
    (folds.folded, rings), (likeness.alike, rings, twice), (likeness.is_parted, rings, twice, None),
    (likeness.core, rings), (stretches.reason, again, "main", 0, 4), (gains.sites, again, TEXT), (gains.cover, TEXT),
    (gains.best, again), (gains.gain, again, TEXT), (gains.is_gain, again, TEXT, (1, (), {})),
    (outlining.outlined, again, "g", TEXT, [("main", 0)]), (outlining.inlined, twice, "double"),
    (patterns.near_gain, again, PATTERN), (patterns.best_near, lambda: Program.of(*NEAR, STOP)),
    (patterns.outlined_near, lambda: Program.of(*NEAR, STOP), "g", [("num", 0, None), *NEAR[1:10]]),
    (ends.sharing, samples.ends, "main"), (ends.shared, samples.ends), (links.saving, bare, "f"), (links.linked, bare),
    (links.saving_paper, bare, "f"), (links.is_saving, bare, "f", ((3,), ((-1, 0, 1, 2, 3), (5, 4, 3)))),
    (lengths.lengths, loop), (lengths.laid_size, loop), (smallest.passed, again, "best"), (smallest.smallest, again),
    (smallest.replayed, again, ["best"]),
]

# The functions of the parts 4 to 10, with as many values behind the program as they take; swept and is_swept are not
# among them.
ALL = {
    holders.holds: 0, holders.goals: 1, holders.shown: 0, facts.writes: 0, facts.known: 0, facts.is_known: 1,
    facts.wanted: 1, facts.idle: 0, facts.is_idle: 1, facts.link_wanted: 1, straightening.straightened: 0,
    passes.cheaper: 1, passes.dropped: 1, folds.classes: 0, folds.are_closed: 1, folds.unlike: 2, folds.is_unlike: 3,
    folds.folded: 0, likeness.core: 0, stretches.reason: 3, gains.sites: 1, gains.best: 0, gains.gain: 1,
    gains.is_gain: 2, outlining.outlined: 3, outlining.inlined: 1, patterns.near_gain: 1, patterns.best_near: 0,
    patterns.outlined_near: 2, ends.sharing: 1, ends.shared: 0, lengths.lengths: 0, lengths.laid_size: 0,
    smallest.passed: 1, smallest.smallest: 0, smallest.replayed: 1,
}
ALL_BARE = {links.saving: 1, links.linked: 0, links.saving_paper: 1, links.is_saving: 2}


def made(value):
    """What is passed: the program that a function makes, or a copy of a value."""
    return value() if callable(value) else copy.deepcopy(value)


class CallsTest(unittest.TestCase):
    def kinds(self, value):
        """Whether a value is of exactly the kinds that may be returned, with ascending keys."""
        if isinstance(value, (list, tuple)):
            self.assertIn(type(value), (list, tuple))
            for part in value:
                self.kinds(part)
        elif isinstance(value, dict):
            self.assertIs(type(value), dict)
            words = [key for key in value if key == "stack"]
            self.assertEqual(list(value), sorted(set(value) - set(words)) + words)
            for part in (*value, *value.values()):
                self.kinds(part)
        else:
            self.assertIn(type(value), (int, str, bool, type(None), Program, BareProgram))

    def test_by_position_and_by_name(self):
        for action, *parts in CALLS:
            names = list(inspect.signature(action).parameters)
            told = action(*map(made, parts))
            self.kinds(told)
            again_told = action(**dict(zip(names, map(made, parts))))
            self.assertTrue(same(told, again_told) or told == again_told and isinstance(told, (Program, tuple)), action)

    def test_what_is_passed_is_not_changed_and_what_is_returned_is_new(self):
        for action, *parts in CALLS:
            given = [made(part) for part in parts]
            told = action(*given)
            self.assertEqual(given, [made(part) for part in parts], action)
            kept = copy.deepcopy(told) if isinstance(told, (list, dict)) else None
            if isinstance(told, list):
                told.append(None)
            elif isinstance(told, dict):
                told[None] = None
            if kept is not None:
                self.assertTrue(same(action(*given), kept), action)

    def test_tuples_where_lists_are_described(self):
        for action, *parts in CALLS:
            if any(isinstance(part, list) for part in parts):
                others = [tuple(part) if isinstance(part, list) else part for part in parts]
                self.assertEqual(action(*map(made, parts)), action(*map(made, others)))

    def test_all_functions_are_called(self):
        called = {action for action, *_ in CALLS}
        self.assertLessEqual(set(ALL) | set(ALL_BARE), called)

    def test_questions_of_any_value(self):
        for value in (*ANY_VALUES, 10 ** 60 - 1, [[[None]]], {"a": [1, {"b": ()}]}, ((("a",),),), "x" * 99):
            for action, *parts in ((facts.is_known, twice()), (facts.is_idle, twice()), (folds.are_closed, twice()),
                                   (folds.is_unlike, twice(), "main", "double"), (likeness.is_parted, twice(), twice()),
                                   (gains.is_gain, again(), TEXT), (links.is_saving, bare(), "f")):
                right = action is facts.is_idle and value in ((), [])
                self.assertIs(action(*parts, value), right, (action, value))
            self.assertIs(value in twice(), isinstance(value, str) and value == "main")
            self.assertIs(twice() == value, False)


class NotSweptTest(unittest.TestCase):
    def test_ahead_of_all_other_errors(self):
        for program in not_swept():
            for action, many in ALL.items():
                self.assertRaises(NotSwept, action, program, *[None] * many)
                for value in (*ANY_VALUES, TEXT, "straightened", [STOP]):
                    if many:
                        self.assertRaises(NotSwept, action, program, *[value] * many)
            for other in (program, twice()):
                for value in ANY_VALUES:
                    self.assertRaises(NotSwept, likeness.is_parted, program, other, value)
                    self.assertRaises(NotSwept, likeness.is_parted, other, program, value)
                self.assertRaises(NotSwept, likeness.alike, program, other)
                self.assertRaises(NotSwept, likeness.alike, other, program)
            with self.assertRaises(NotSwept):
                list(outlining.rounds(program))
            for action, many in ALL_BARE.items():
                for value in ANY_VALUES:
                    self.assertRaises(NotSwept, action, BareProgram(program.functions), *[value] * many)

    def test_those_that_take_any_program(self):
        for program in not_swept():
            self.assertIs(is_swept(program), False)
            for kind in (benches.Bench, benches.CountingBench, benches.GuardedBench, benches.GuardedCountingBench,
                         benchlogs.LoggedBench):
                self.assertEqual(kind(program).program, sweeping.swept(program))
            console = consoles.Console()
            console.say("load\n" + program.text)
            self.assertEqual(console.bench.program, sweeping.swept(program))


class MethodsTest(unittest.TestCase):
    def test_methods_for_which_no_result_is_described(self):
        bench = benches.Bench(twice())
        self.assertIs(bench.edit("main", [("call", "double"), STOP]), None)
        self.assertIs(bench.undo(), None)
        self.assertIs(bench.redo(), None)
        done = runs.Run(twice())
        self.assertIs(done.step(), None)
        self.assertIs(done.go(3), None)

    def test_objects_are_not_equal_to_other_values(self):
        for thing in (twice(), bare(), runs.Run(twice()), benches.Bench(twice()), consoles.Console()):
            self.assertEqual(thing, thing)
            for value in ANY_VALUES:
                self.assertIs(thing == value, False)
                self.assertIs(thing != value, True)

    def test_objects_copy_what_they_are_given(self):
        lines, inputs = [("in", 0), ("out", 0), STOP], [5]
        functions = {"main": lines}
        program, done, bench = Program(functions), runs.Run(Program(functions), inputs), benches.Bench(twice())
        logged = benchlogs.LoggedBench(twice())
        bench.edit("main", lines)
        logged.edit("main", lines)
        log = logged.log
        lines.insert(0, None)
        inputs.append(None)
        functions["f"] = None
        done.go(9)
        self.assertEqual(program.text, "function main\nin 0\nout 0\nstop")
        self.assertEqual((done.outputs, bench.program, logged.log), ((5,), program, log))
        for table in (program.functions, done.visits):
            table.clear()
        self.assertEqual((program.names, len(done.visits)), (("main",), 3))

    def test_generators_raise_their_errors_at_first(self):
        rounds = None
        with self.assertRaises(NotSwept):
            rounds = outlining.rounds(not_swept()[0])
            next(iter(rounds))
