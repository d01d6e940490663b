import unittest

from foldlines.benches import Bench, CountingBench, GuardedBench, GuardedCountingBench
from foldlines.errors import Broken, InvalidFunctions, InvalidGuard, InvalidLine, InvalidLines, InvalidName
from foldlines.errors import InvalidPlaces, InvalidText, InvalidWord, NotStraight, OutOfRange, SameName, TooMany
from foldlines.errors import UnknownName, Untidy
from foldlines.folds import folded
from foldlines.outlining import inlined, outlined
from foldlines.passes import cheaper, dropped
from foldlines.programs import Program
from foldlines.smallest import PASSES, passed
from foldlines.sweeping import swept
from samples import ANY_VALUES, again, facts, not_swept, rings, same, twice

STOP = ("stop",)
BACK = ("back",)
TEXT = (("in", 0), ("add", 0, 0, 0), ("mul", 1, 0, 0), ("out", 1))
# The numbers that are none from 0 to 1, as undo takes it behind one step.
NO_COUNTS = [value for value in ANY_VALUES if not same(value, 0) and not same(value, 1)] + [2]


class Wrong(Exception):
    """An error that is none of the package."""


def told(bench):
    """All that a bench tells, but for what a counting one has counted."""
    programs = [bench.program_at(number) for number in range(bench.moment + 1)]
    return (bench.program, bench.size, bench.moment, bench.undone, bench.depth, bench.steps, programs,
            list(bench.sizes()))


def stepped(bench):
    """The bench, with four steps done and one of them undone."""
    bench.put("g", TEXT)
    bench.take("g")
    bench.edit("main", [*TEXT, ("out", 0), STOP])
    bench.make("dropped")
    bench.undo()
    return bench


class BenchTest(unittest.TestCase):
    def told(self, bench, *programs, steps=(), undone=0, depth=0):
        """Holds all that a bench tells against a plain list of programs."""
        self.assertEqual(bench.program, programs[-1])
        self.assertTrue(same(bench.size, programs[-1].size))
        self.assertTrue(same((bench.moment, bench.undone, bench.depth), (len(programs) - 1, undone, depth)))
        self.assertTrue(same(bench.steps, tuple(steps)))
        self.assertEqual([bench.program_at(number) for number in range(len(programs))], list(programs))
        self.assertTrue(same(list(bench.sizes()), [program.size for program in programs]))

    def test_a_new_bench(self):
        self.told(Bench(program=twice()), twice())
        for program in not_swept():
            self.told(Bench(program), swept(program))
        self.assertIs(type(Bench(twice()).program), Program)

    def test_of_text(self):
        bench = Bench.of_text(text=rings().text)
        self.told(bench, rings())
        self.assertIs(type(bench), Bench)
        for program in not_swept():
            self.told(Bench.of_text(program.text), swept(program))
        for kind in (GuardedBench, CountingBench, GuardedCountingBench):
            self.assertIs(type(kind.of_text(rings().text)), kind)
        self.assertRaises(InvalidText, Bench.of_text, "function main\nstops")
        self.assertRaises(InvalidText, Bench.of_text, None)
        self.assertRaises(InvalidFunctions, Bench.of_text, "function f\nstop")
        self.assertRaises(Untidy, Bench.of_text, "function main\ncall main\nback")

    def test_edit(self):
        bench = Bench(twice())
        lines = [("in", 0), BACK]
        self.assertIs(bench.edit(name="double", lines=lines), None)
        second = twice().with_function("double", lines)
        self.told(bench, twice(), second, steps=[("edit", "double")])
        lines.clear()
        self.told(bench, twice(), second, steps=[("edit", "double")])
        bench.edit("double", (("in", 1), BACK))
        self.assertEqual(bench.program["double"], (("in", 1), BACK))

    def test_what_is_edited_is_swept(self):
        bench = Bench(twice())
        bench.edit("main", [("in", 0), STOP, ("call", "double"), ("mark", "a"), STOP])
        self.told(bench, twice(), Program.of(("in", 0), STOP), steps=[("edit", "main")])

    def test_make(self):
        for word in PASSES:
            bench = Bench(again())
            made = passed(again(), word)
            self.assertTrue(same(bench.make(word=word), again().size - made.size))
            self.told(bench, again(), made, steps=[("make", word)])
        bench = Bench(facts())
        self.assertEqual((bench.make("cheaper"), bench.make("dropped"), bench.make("dropped")), (2, 1, 0))
        self.told(bench, facts(), cheaper(facts()), dropped(cheaper(facts())), dropped(cheaper(facts())),
                  steps=[("make", "cheaper"), ("make", "dropped"), ("make", "dropped")])

    def test_put_and_take(self):
        bench = Bench(again())
        self.assertTrue(same(bench.put(name="g", lines=list(TEXT)), 1))
        small = outlined(again(), "g", TEXT)
        self.told(bench, again(), small, steps=[("put", "g")])
        self.assertTrue(same(bench.take(name="g"), -1))
        self.told(bench, again(), small, inlined(small, "g"), steps=[("put", "g"), ("take", "g")])

    def test_a_step_that_changes_nothing_is_one(self):
        bench = Bench(twice())
        self.assertTrue(same(bench.make("best"), 0))
        bench.edit("main", twice()["main"])
        self.told(bench, twice(), twice(), twice(), steps=[("make", "best"), ("edit", "main")])
        bench.undo(2)
        bench.make("near")
        self.told(bench, twice(), twice(), steps=[("make", "near")])

    def test_undo_and_redo(self):
        bench = stepped(Bench(again()))
        small = outlined(again(), "g", TEXT)
        third = Program.of(*TEXT, ("out", 0), STOP)
        steps = [("put", "g"), ("take", "g"), ("edit", "main")]
        self.told(bench, again(), small, again(), third, steps=steps, undone=1)
        self.assertIs(bench.redo(), None)
        self.told(bench, again(), small, again(), third, dropped(third), steps=[*steps, ("make", "dropped")])
        self.assertIs(bench.undo(count=4), None)
        self.told(bench, again(), undone=4)
        bench.redo(2)
        self.told(bench, again(), small, again(), steps=steps[:2], undone=2)
        bench.undo(0)
        bench.redo(count=0)
        self.told(bench, again(), small, again(), steps=steps[:2], undone=2)
        bench.redo(2)
        self.told(bench, again(), small, again(), third, dropped(third), steps=[*steps, ("make", "dropped")])

    def test_a_step_ends_what_can_be_redone(self):
        bench = stepped(Bench(again()))
        bench.undo(2)
        bench.make("dropped")
        self.assertEqual((bench.undone, bench.steps), (0, (("put", "g"), ("make", "dropped"))))
        self.assertRaises(OutOfRange, bench.redo)

    def test_undo_and_redo_of_too_many(self):
        for value in NO_COUNTS:
            bench = Bench(twice())
            bench.make("best")
            for action in (bench.undo, bench.program_at):
                with self.assertRaises(OutOfRange) as caught:
                    action(value)
                self.assertTrue(same(caught.exception.value, value))
            bench.undo()
            with self.assertRaises(OutOfRange) as caught:
                bench.redo(value)
            self.assertTrue(same(caught.exception.value, value))
            self.told(bench, twice(), undone=1)
        bench = Bench(twice())
        for action in (bench.undo, bench.redo):
            with self.assertRaises(OutOfRange) as caught:
                action()
            self.assertTrue(same(caught.exception.value, 1))

    def test_program_at_both_ends(self):
        bench = stepped(Bench(again()))
        self.assertEqual(bench.program_at(number=0), again())
        self.assertEqual(bench.program_at(3), bench.program)
        for value in (-1, 4, True, None, "0"):
            self.assertRaises(OutOfRange, bench.program_at, value)

    def test_sizes_are_those_of_when_they_are_asked_for(self):
        bench = Bench(again())
        sizes = bench.sizes()
        self.assertEqual(next(sizes), again().size)
        self.assertEqual(list(Bench(twice()).sizes()), [9])

    def unchanged(self, bench, error, action, *parts):
        before = told(bench)
        with self.assertRaises(error) as caught:
            action(*parts)
        self.assertEqual(told(bench), before)
        return caught.exception

    def test_errors_of_edit(self):
        bench = stepped(Bench(again()))
        for value in ANY_VALUES:
            if value != "main":
                self.assertTrue(same(self.unchanged(bench, UnknownName, bench.edit, value, None).value, value))
            if value not in ([STOP], (STOP,)):
                error = self.unchanged(bench, (InvalidLines, InvalidLine), bench.edit, "main", value)
                if not isinstance(value, (list, tuple)) or not value:
                    self.assertTrue(same(error.value, value))
                else:
                    self.assertEqual((error.name, error.index), ("main", 0))
        self.assertEqual(self.unchanged(bench, TooMany, bench.edit, "main", [STOP] * 61).limit, 60)
        self.assertEqual(self.unchanged(bench, Untidy, bench.edit, "main", [("pop", 0), STOP]).name, "main")
        self.unchanged(bench, InvalidLine, bench.edit, "main", [("call", "gone"), STOP])

    def test_edit_of_a_program_beyond_the_limits(self):
        names = ["f" + chr(97 + at) for at in range(23)]
        bench = Bench(Program({"main": [*(("call", name) for name in names), *TEXT, *TEXT, *TEXT, STOP],
                               **{name: [BACK] for name in names}}))
        bench.put("g", TEXT)
        self.assertEqual(len(bench.program), 25)
        self.assertEqual(self.unchanged(bench, TooMany, bench.edit, "g", [BACK]).limit, 24)

    def test_errors_of_make(self):
        bench = stepped(Bench(again()))
        for value in (*ANY_VALUES, "swept", "Best"):
            self.assertTrue(same(self.unchanged(bench, InvalidWord, bench.make, value).value, value))

    def test_errors_of_put(self):
        bench = stepped(Bench(again()))
        for value in ANY_VALUES:
            if value not in ("main", "m", "link", "stop"):
                self.assertTrue(same(self.unchanged(bench, InvalidName, bench.put, value, None).value, value))
            if value not in ([STOP], (STOP,)):
                self.assertTrue(same(self.unchanged(bench, InvalidLines, bench.put, "h", value).value, value))
        self.assertEqual(self.unchanged(bench, SameName, bench.put, "main", None).name, "main")
        self.assertTrue(same(self.unchanged(bench, InvalidPlaces, bench.put, "h", [STOP]).value, ()))

    def test_errors_of_take(self):
        bench = stepped(Bench(again()))
        for value in ANY_VALUES:
            if value != "main":
                self.assertTrue(same(self.unchanged(bench, UnknownName, bench.take, value).value, value))
        self.assertEqual(self.unchanged(bench, NotStraight, bench.take, "main").name, "main")

    def test_properties_are_not_assigned(self):
        for name in ("program", "size", "moment", "undone", "depth", "steps"):
            with self.assertRaises(AttributeError):
                setattr(Bench(twice()), name, None)

    def test_benches_are_equal_to_themselves_alone(self):
        bench = Bench(twice())
        self.assertEqual(bench, bench)
        for value in (*ANY_VALUES, twice(), Bench(twice())):
            self.assertNotEqual(bench, value)


class TrialsTest(unittest.TestCase):
    def test_an_attempt_that_ends_well(self):
        bench = stepped(Bench(again()))

        def action(given):
            self.assertIs(given, bench)
            self.assertEqual(bench.depth, 1)
            bench.undo(2)
            bench.make("folded")
            return [given]

        self.assertEqual(bench.attempt(action=action), [bench])
        self.assertEqual((bench.depth, bench.undone), (0, 0))
        self.assertEqual(bench.steps, (("put", "g"), ("make", "folded")))

    def test_an_attempt_that_fails(self):
        for error in (Wrong, KeyError, StopIteration, KeyboardInterrupt, GeneratorExit):
            bench = stepped(Bench(again()))
            before = told(bench)

            def action(given):
                given.undo(3)
                given.make("best")
                given.edit("main", [STOP])
                given.undo()
                raise error("here")

            for trial in (bench.attempt, bench.explore):
                with self.assertRaises(error) as caught:
                    trial(action)
                self.assertEqual(caught.exception.args, ("here",))
                self.assertEqual(told(bench), before)
            bench.redo()
            self.assertEqual(bench.steps[-1], ("make", "dropped"))

    def test_steps_with_errors_in_an_attempt(self):
        bench = stepped(Bench(again()))
        before = told(bench)
        with self.assertRaises(InvalidWord):
            bench.attempt(lambda given: (given.make("best"), given.make("worst")))
        self.assertEqual(told(bench), before)

        def action(given):
            given.make("best")
            with self.assertRaises(InvalidWord):
                given.make("worst")
            return given.moment

        self.assertEqual(bench.attempt(action), 4)
        self.assertEqual(bench.steps[-1], ("make", "best"))

    def test_explore(self):
        bench = stepped(Bench(again()))
        before = told(bench)

        def action(given):
            given.redo()
            given.undo(4)
            given.make("best")
            return (given.size, given.depth, given.steps)

        self.assertEqual(bench.explore(action=action), (again().size - 1, 1, (("make", "best"),)))
        self.assertEqual(told(bench), before)
        self.assertIs(bench.explore(lambda given: None), None)

    def test_trials_within_trials(self):
        bench = stepped(Bench(again()))
        first = told(bench)
        seen = []

        def inner(given):
            seen.append(given.depth)
            given.undo(given.moment)
            given.edit("main", [("in", 5), STOP])
            return given.size

        def failing(given):
            inner(given)
            raise Wrong

        def outer(given):
            seen.append(given.depth)
            given.make("folded")
            before = told(given)
            self.assertEqual(given.explore(inner), 2)
            self.assertEqual(told(given), before)
            with self.assertRaises(Wrong):
                given.attempt(failing)
            self.assertEqual(told(given), before)
            self.assertEqual(given.attempt(inner), 2)
            self.assertEqual(given.steps, (("edit", "main"),))
            return given.depth

        self.assertEqual(bench.explore(outer), 1)
        self.assertEqual(told(bench), first)
        self.assertEqual(bench.attempt(outer), 1)
        self.assertEqual((bench.depth, bench.steps, bench.undone), (0, (("edit", "main"),), 0))
        self.assertEqual(seen, [1, 2, 2, 2] * 2)

    def test_an_error_that_leaves_all_trials(self):
        bench = stepped(Bench(again()))
        before = told(bench)

        def action(given):
            given.undo()
            if given.depth < 5:
                given.attempt(action) if given.depth % 2 else given.explore(action)
            raise Wrong

        bench.make("best")
        bench.make("best")
        bench.undo(2)
        before = told(bench)
        with self.assertRaises(OutOfRange):
            bench.attempt(action)
        self.assertEqual(told(bench), before)

    def test_what_is_redone_in_a_trial_is_there_behind_it(self):
        bench = stepped(Bench(again()))
        bench.attempt(lambda given: given.redo())
        self.assertEqual((bench.moment, bench.undone), (4, 0))
        bench.explore(lambda given: given.undo(4))
        self.assertEqual((bench.moment, bench.undone), (4, 0))


class GuardedBenchTest(unittest.TestCase):
    def test_classes(self):
        self.assertEqual(GuardedBench.__bases__, (Bench,))
        self.assertEqual(CountingBench.__bases__, (Bench,))
        self.assertEqual(set(GuardedCountingBench.__bases__), {GuardedBench, CountingBench})

    def test_all_guards(self):
        guards = (("size", 9), ("run", (), 8, 8), ("name", "double"), ("name", "main"), ("run", (1, -2), 99, 10 ** 6))
        for kind in (GuardedBench, GuardedCountingBench):
            bench = kind(twice(), *guards)
            self.assertEqual(bench.program, twice())
            self.assertEqual(kind(program=twice()).program, twice())
            for program in not_swept():
                self.assertEqual(kind(program, ("size", 1000)).program, swept(program))

    def broken(self, program, index, *guards):
        with self.assertRaises(Broken) as caught:
            GuardedBench(program, *guards)
        self.assertTrue(same(caught.exception.index, index))

    def test_guards_that_do_not_hold_at_the_beginning(self):
        self.broken(twice(), 0, ("size", 8))
        self.broken(twice(), 1, ("size", 9), ("size", 8), ("size", 7))
        self.broken(twice(), 0, ("name", "gone"))
        self.broken(twice(), 0, ("run", (), 7, 8))
        self.broken(twice(), 0, ("run", (), 8, 7))
        self.broken(twice(), 0, ("run", (), 0, 8))
        self.broken(Program.of(("mark", "a"), ("jump", "a")), 0, ("run", (), 99, 99))
        GuardedBench(twice(), ("run", (), 8, 8), ("size", 9))
        GuardedBench(Program.of(STOP), ("run", (), 1, 1), ("size", 1))
        self.broken(Program.of(STOP), 0, ("size", 0))

    def test_the_size_and_the_names_are_those_of_the_swept_program(self):
        program = Program({"main": [STOP, STOP], "f": [BACK]})
        GuardedBench(program, ("size", 1))
        self.broken(program, 0, ("name", "f"))

    def test_values_that_are_no_guards(self):
        wrong = [("size",), ("size", 9, 9), ("size", -1), ("size", 10 ** 6 + 1), ("size", True), ("size", None),
                 ["size", 9], ("sizes", 9), ("name",), ("name", "Main"), ("name", "a", "b"), ("name", None),
                 ("name", ("main",)), ["name", "main"], ("run", [], 8, 8), ("run", (), 8), ("run", (), 8, 8, 8),
                 ("run", (True,), 8, 8), ("run", (2 ** 31,), 8, 8), ("run", (), -1, 8), ("run", (), 8, -1),
                 ("run", (), 10 ** 6 + 1, 8), ("run", (), 8, 10 ** 6 + 1), ("run", (), True, 8), ("run", (), 8, False),
                 ("run", "", 8, 8), ["run", (), 8, 8], ("run", None, 8, 8), ("run", (None,), 8, 8), ("run", 8, (), 8),
                 ("runs", (), 8, 8), ("run",), (None, 9), ([], 9), ("run", ((),), 8, 8), ("run", {}, 8, 8)]
        for value in (*ANY_VALUES, *wrong):
            for kind in (GuardedBench, GuardedCountingBench):
                for guards, index in (((value,), 0), ((("size", 9), value), 1), ((("size", 0), value), 1),
                                      ((("name", "gone"), ("size", 0), value, value), 2)):
                    with self.assertRaises(InvalidGuard, msg=value) as caught:
                        kind(twice(), *guards)
                    self.assertTrue(same(caught.exception.index, index))

    def test_the_greatest_counts(self):
        GuardedBench(twice(), ("size", 10 ** 6), ("run", (), 10 ** 6, 10 ** 6), ("run", (2 ** 31 - 1,), 8, 8))

    def stays(self, bench, index, action, *parts):
        before = told(bench)
        with self.assertRaises(Broken) as caught:
            action(*parts)
        self.assertTrue(same(caught.exception.index, index))
        self.assertEqual(told(bench), before)

    def test_size(self):
        bench = stepped(GuardedBench(again(), ("size", 13)))
        self.stays(bench, 0, bench.edit, "main", [*TEXT, *TEXT, *TEXT, ("out", 0), STOP])
        bench.edit("main", [*TEXT, *TEXT, *TEXT, STOP])
        self.assertEqual(bench.size, 13)

    def test_name(self):
        bench = GuardedBench(again(), ("size", 99), ("name", "main"))
        bench.put("g", TEXT)
        bench.take("g")
        self.assertNotIn("g", bench.program)
        bench = GuardedBench(outlined(again(), "g", TEXT), ("name", "g"))
        self.stays(bench, 0, bench.take, "g")
        self.stays(bench, 0, bench.edit, "main", [STOP])
        bench = GuardedBench(rings(), ("name", "b"))
        self.stays(bench, 0, bench.make, "folded")

    def test_run(self):
        steps = 4 * 3 + 1
        bench = GuardedBench(again(), ("run", (1, 2, 3), steps, steps + 6), ("run", (), steps, 99))
        bench.put("g", TEXT)
        self.assertEqual(bench.moment, 1)
        bench = GuardedBench(again(), ("run", (1, 2, 3), steps, steps + 5))
        self.stays(bench, 0, bench.put, "g", TEXT)
        bench.edit("main", [*TEXT, ("in", 0), ("add", 0, 0, 0), ("mul", 1, 0, 0), ("out", 1), *TEXT, STOP])
        self.stays(bench, 0, bench.edit, "main", [*TEXT, *TEXT, STOP])
        self.stays(bench, 0, bench.edit, "main", [*TEXT, *TEXT, *TEXT, BACK])
        self.stays(bench, 0, bench.edit, "main", [*TEXT, *TEXT, *TEXT, ("out", 0), STOP])
        self.stays(bench, 0, bench.edit, "main", [*TEXT, *TEXT, *TEXT, ("addr", 0, "main"), ("out", 0), STOP])
        self.stays(bench, 0, bench.edit, "main", [("mark", "a"), ("jump", "a")])
        bench.edit("main", [*TEXT, *TEXT, ("in", 0), ("add", 0, 0, 0), ("mul", 5, 0, 0), ("out", 5), STOP])
        self.assertEqual(bench.moment, 2)

    def test_the_run_is_that_of_the_first_program(self):
        bench = GuardedBench(Program.of(("in", 0), ("in", 0), ("out", 0), STOP), ("run", (1, 2), 4, 9))
        bench.edit("main", [("in", 0), ("in", 0), ("copy", 1, 0), ("out", 1), STOP])
        bench.edit("main", [("in", 0), ("in", 1), ("out", 1), ("copy", 0, 1), STOP])
        self.stays(bench, 0, bench.edit, "main", [("in", 0), ("out", 0), STOP])

    def test_the_first_guard_that_does_not_hold(self):
        bench = GuardedBench(twice(), ("name", "main"), ("size", 9), ("run", (), 9, 9))
        self.stays(bench, 1, bench.edit, "double", [("num", 0, 100), BACK])
        self.stays(bench, 2, bench.edit, "double", [("num", 0, 1), BACK])

    def test_other_errors_come_first(self):
        bench = GuardedBench(rings(), ("size", 17), ("name", "b"))
        for error, action, parts in (
                (UnknownName, bench.edit, ("gone", None)), (InvalidLines, bench.edit, ("main", [])),
                (InvalidLine, bench.edit, ("main", [None])), (Untidy, bench.edit, ("main", [("pop", 0), STOP])),
                (InvalidWord, bench.make, (None,)), (InvalidName, bench.put, ("", [])),
                (InvalidPlaces, bench.put, ("g", [STOP])), (NotStraight, bench.take, ("main",))):
            self.assertRaises(error, action, *parts)
        self.assertEqual(bench.moment, 0)

    def test_undo_and_redo_look_at_no_guard(self):
        # No step leads to a program of which a guard does not hold, so that going back to one is told by calls alone.
        bench = GuardedBench(again(), ("size", 13))
        bench.put("g", TEXT)
        bench.undo()
        bench.redo()
        self.assertEqual(bench.size, 12)

    def test_trials(self):
        bench = stepped(GuardedBench(again(), ("size", 13)))
        before = told(bench)

        def action(given):
            given.undo(2)
            self.assertEqual(given.take("g"), -1)
            given.edit("main", [*TEXT, *TEXT, *TEXT, ("in", 0), STOP])

        with self.assertRaises(Broken):
            bench.attempt(action)
        self.assertEqual(told(bench), before)


class CountingBenchTest(unittest.TestCase):
    def test_counts(self):
        for kind in (CountingBench, GuardedCountingBench):
            bench = kind(again())
            self.assertTrue(same(bench.counts, {}))
            bench.put("g", TEXT)
            self.assertTrue(same(bench.counts, {"put": (1, 1)}))
            bench.take("g")
            bench.edit("main", [*TEXT, STOP])
            bench.edit("main", [*TEXT, *TEXT, STOP])
            bench.make("folded")
            bench.make("dropped")
            bench.make("folded")
            self.assertTrue(same(bench.counts, {"dropped": (1, 0), "edit": (2, 4), "folded": (2, 0), "put": (1, 1),
                                                "take": (1, -1)}))
            self.assertEqual(list(bench.counts), sorted(bench.counts))

    def test_counts_are_new(self):
        bench = CountingBench(again())
        bench.make("best")
        bench.counts.clear()
        self.assertEqual(bench.counts, {"best": (1, 1)})

    def test_undone_steps_stay_counted(self):
        bench = CountingBench(again())
        bench.put("g", TEXT)
        bench.undo()
        bench.redo()
        bench.undo()
        bench.put("h", TEXT)
        self.assertEqual(bench.counts, {"put": (2, 2)})

    def test_trials(self):
        bench = CountingBench(again())

        def action(given):
            given.put("g", TEXT)
            given.take("g")
            raise Wrong

        with self.assertRaises(Wrong):
            bench.attempt(action)
        with self.assertRaises(Wrong):
            bench.explore(action)
        bench.explore(lambda given: given.make("best"))
        self.assertEqual((bench.counts, bench.moment), ({"best": (1, 1), "put": (2, 2), "take": (2, -2)}, 0))

    def test_steps_with_errors_are_not_counted(self):
        bench = GuardedCountingBench(again(), ("size", 13), ("name", "main"))
        for action in (lambda: bench.edit("main", [("num", 0, 100)] * 5 + [STOP]), lambda: bench.make("worst"),
                       lambda: bench.put("g", [STOP]), lambda: bench.take("main")):
            with self.assertRaises((ValueError, RuntimeError)):
                action()
        self.assertEqual(bench.counts, {})
        bench.make("folded")
        self.assertEqual(bench.counts, {"folded": (1, 0)})

    def test_counts_are_not_assigned(self):
        with self.assertRaises(AttributeError):
            CountingBench(again()).counts = {}

    def test_folded(self):
        bench = CountingBench(rings())
        self.assertEqual(bench.make("folded"), rings().size - folded(rings()).size)
        self.assertEqual(bench.counts, {"folded": (1, 6)})
