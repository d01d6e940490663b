"""Random histories, always the same ones, of benches, logs and consoles, against plain lists of programs."""

import random
import unittest

from chances import built_programs, chunked_programs, ended_programs, numbered_programs
from foldlines.benches import Bench, CountingBench, GuardedBench, GuardedCountingBench
from foldlines.benchlogs import LoggedBench
from foldlines.consoles import Console
from foldlines.errors import Broken, OutOfRange
from foldlines.lines import lines_size
from foldlines.outlining import inlined, outlined
from foldlines.programs import Program
from foldlines.runs import run
from foldlines.smallest import PASSES, passed, replayed, smallest
from foldlines.sweeping import swept
from samples import is_right, run_alike, same

INPUTS = ([], [3, -1, 5, 0, 2])
ERRORS = (ValueError, LookupError, OverflowError)


class Wrong(Exception):
    """An error that is none of the package."""


class Plain:
    """The programs in effect, the steps, and those that can be redone, in plain lists."""

    def __init__(self, program):
        self.programs, self.steps, self.later, self.depth = [swept(program)], [], [], 0
        self.given, self.counts = [], {}

    def kept(self):
        return (list(self.programs), list(self.steps), list(self.later), list(self.given))

    def go_back(self, kept):
        self.programs, self.steps, self.later, self.given = [list(part) for part in kept]

    def step(self, step, program, given=()):
        fall = self.programs[-1].size - program.size
        word = step[1] if step[0] == "make" else step[0]
        times, units = self.counts.get(word, (0, 0))
        self.counts[word] = (times + 1, units + fall)
        self.programs.append(program)
        self.steps.append(step)
        self.given.append(given)
        self.later.clear()
        return fall

    def undo(self, many):
        for _ in range(many):
            self.later.append((self.programs.pop(), self.steps.pop(), self.given.pop()))

    def redo(self, many):
        for _ in range(many):
            program, step, given = self.later.pop()
            self.programs.append(program)
            self.steps.append(step)
            self.given.append(given)

    def log(self):
        rows = []
        for number, step in enumerate(self.steps, 1):
            lines = " ; ".join(" ".join(map(str, line)) for line in self.given[number - 1])
            middle = [lines, "="] if step[0] in ("edit", "put") else []
            rows.append(" ".join([str(number), *step, *middle, str(self.programs[number].size)]))
        return "\n".join(rows)


class History:
    """Does the same random steps with a bench and with plain lists, and holds one against the other."""

    def __init__(self, test, chance, bench, plain, stays=lambda program: True):
        self.test, self.chance, self.bench, self.plain, self.stays = test, chance, bench, plain, stays
        self.done = {}

    def check(self):
        bench, plain = self.bench, self.plain
        self.test.assertEqual(bench.program, plain.programs[-1])
        told = (bench.size, bench.moment, bench.undone, bench.depth, bench.steps, tuple(bench.sizes()))
        self.test.assertTrue(same(told, (plain.programs[-1].size, len(plain.steps), len(plain.later), plain.depth,
                                         tuple(plain.steps), tuple(program.size for program in plain.programs))))
        number = self.chance.randrange(len(plain.programs))
        self.test.assertEqual(bench.program_at(number), plain.programs[number])
        if isinstance(bench, CountingBench):
            self.test.assertTrue(same(bench.counts, dict(sorted(plain.counts.items()))))
        if isinstance(bench, LoggedBench):
            self.test.assertEqual(bench.log, plain.log())

    def go(self, many):
        for _ in range(many):
            word = self.chance.choice(("make", "make", "make", "edit", "put", "put", "take", "undo", "redo", "trial"))
            action = getattr(self, word)
            action()
            self.check()
            self.done[word] = self.done.get(word, 0) + 1

    def do(self, step, made, action, given=()):
        """Does a step in both, unless the guards of the bench do not let it be done."""
        if not self.stays(made):
            self.test.assertRaises(Broken, action)
            self.done["broken"] = self.done.get("broken", 0) + 1
            return
        told = action()
        fall = self.plain.step(step, made, given)
        self.test.assertTrue(same(told, None if step[0] == "edit" else fall))

    def make(self):
        word = self.chance.choice(PASSES)
        self.do(("make", word), passed(self.bench.program, word), lambda: self.bench.make(word))

    def edit(self):
        program = self.bench.program
        name = self.chance.choice(program.names)
        lines = list(program[name])
        at = self.chance.randrange(len(lines))
        lines[at] = self.chance.choice((("in", 0), ("out", 1), ("num", 2, 9), lines[at], ("stop",)))
        try:
            made = swept(program.with_function(name, lines))
        except ERRORS as error:
            with self.test.assertRaises(type(error)):
                self.bench.edit(name, lines)
            return
        self.do(("edit", name), made, lambda: self.bench.edit(name, lines), lines)

    def put(self):
        program = self.bench.program
        name = self.chance.choice(program.names)
        first = self.chance.randrange(len(program[name]))
        lines = program[name][first:first + self.chance.randrange(1, 6)]
        new = self.chance.choice(("g", "h", "i"))
        try:
            made = outlined(program, new, lines)
        except ERRORS as error:
            with self.test.assertRaises(type(error)):
                self.bench.put(new, lines)
            return
        self.do(("put", new), made, lambda: self.bench.put(new, lines), lines)

    def take(self):
        program = self.bench.program
        name = self.chance.choice(program.names)
        try:
            made = inlined(program, name)
        except ERRORS as error:
            with self.test.assertRaises(type(error)):
                self.bench.take(name)
            return
        self.do(("take", name), made, lambda: self.bench.take(name))

    def undo(self):
        many = self.chance.randrange(3)
        if many > len(self.plain.steps):
            self.test.assertRaises(OutOfRange, self.bench.undo, many)
            return
        self.test.assertIs(self.bench.undo(many), None)
        self.plain.undo(many)

    def redo(self):
        many = self.chance.randrange(3)
        if many > len(self.plain.later):
            self.test.assertRaises(OutOfRange, self.bench.redo, many)
            return
        self.test.assertIs(self.bench.redo(many), None)
        self.plain.redo(many)

    def trial(self):
        if self.plain.depth == 3:
            return
        kept = self.plain.kept()
        explores, fails = self.chance.random() < 0.5, self.chance.random() < 0.4
        many = self.chance.randrange(4)

        def action(bench):
            self.test.assertIs(bench, self.bench)
            self.plain.depth += 1
            self.check()
            self.go(many)
            if fails:
                raise Wrong
            return many

        try:
            trial = self.bench.explore if explores else self.bench.attempt
            self.test.assertEqual(trial(action), many)
            self.test.assertFalse(fails)
        except Wrong:
            self.test.assertTrue(fails)
        self.plain.depth -= 1
        if explores or fails:
            self.plain.go_back(kept)


def programs(number):
    return (chunked_programs(number, 12) + built_programs(number + 1, 8) + ended_programs(number + 2, 6)
            + numbered_programs(number + 3, 6))


class HistoriesTest(unittest.TestCase):
    def test_all_benches(self):
        chance = random.Random(1)
        done = {}
        for number, program in enumerate(programs(20)):
            kind = (Bench, CountingBench, LoggedBench, GuardedCountingBench)[number % 4]
            history = History(self, chance, kind(program), Plain(program))
            history.check()
            history.go(14)
            for word, many in history.done.items():
                done[word] = done.get(word, 0) + many
            if kind is LoggedBench:
                other = LoggedBench.replayed(program, history.bench.log)
                self.assertEqual((other.log, other.program, other.steps, list(other.sizes())),
                                 (history.bench.log, history.bench.program, history.bench.steps,
                                  list(history.bench.sizes())))
        self.assertGreater(min(done.values()), 10)

    def test_guarded_benches(self):
        chance = random.Random(2)
        broken = 0
        for program in programs(30):
            first = swept(program)
            ended = [inputs for inputs in ([], [3, -1]) if run(first, inputs, 300)[1] is not None]
            steps = {tuple(inputs): run(first, inputs, 300) for inputs in ended}
            most = first.size + chance.randrange(3)
            name = chance.choice(first.names)

            def stays(made):
                runs = [run(made, inputs, told[2] + 5)[:2] == told[:2] for inputs, told in steps.items()]
                return made.size <= most and name in made.names and all(runs)

            guards = [("size", most), ("name", name),
                      *(("run", inputs, told[2], told[2] + 5) for inputs, told in steps.items())]
            history = History(self, chance, GuardedBench(program, *guards), Plain(program), stays)
            history.go(14)
            broken += history.done.get("broken", 0)
            for made in history.bench.program, history.bench.program_at(0):
                self.assertTrue(stays(made))
        self.assertGreater(broken, 20)

    def test_runs_stay_the_same(self):
        """All that a bench does but an edit leaves the runs as they were."""
        chance = random.Random(3)
        for program in programs(40):
            history = History(self, chance, Bench(program), Plain(program))
            history.edit = lambda: None
            history.go(10)
            for number in range(history.bench.moment + 1):
                made = history.bench.program_at(number)
                self.assertTrue(is_right(made))
                self.assertTrue(all(run_alike(program, made, inputs, 200) for inputs in INPUTS))


class PassesTest(unittest.TestCase):
    def test_all_passes_and_rows_of_them(self):
        chance = random.Random(4)
        for program in programs(50):
            made, row = smallest(program)
            self.assertEqual(replayed(program, row), made)
            self.assertLess(len(row), 60)
            now = program
            for _ in range(6):
                word = chance.choice(PASSES)
                then = passed(now, word)
                self.assertLessEqual(then.size, now.size)
                self.check(program, then)
                now = then
            self.check(program, made)
            self.assertEqual([word for word in PASSES if passed(made, word).size < made.size], [])

    def check(self, program, made):
        self.assertTrue(is_right(made))
        self.assertEqual(made.size, sum(lines_size(made[name]) for name in made.names))
        self.assertTrue(all(run_alike(program, made, inputs, 200) for inputs in INPUTS))
        lengths = [len(made[name]) for name in made.names]
        if len(lengths) <= 24 and max(lengths) <= 60 and sum(lengths) <= 240:
            self.assertEqual(Program.read(made.text), made)


class ConsolesTest(unittest.TestCase):
    def test_consoles(self):
        chance = random.Random(5)
        for program in programs(60):
            console, bench = Console(), Bench(program)
            self.assertEqual(console.say("load\n" + program.text), "ok")
            for _ in range(15):
                name = chance.choice(bench.program.names)
                row, action = chance.choice((
                    (f"make {(word := chance.choice(PASSES))}", lambda given, word=word: given.make(word)),
                    (f"take {name}", lambda given: given.take(name)),
                    ("undo", lambda given: given.undo()), ("redo", lambda given: given.redo()),
                    (f"put g {name} 0 3", lambda given: given.put("g", given.program[name][:3])),
                    (f"edit {name} in 0 ; stop", lambda given: given.edit(name, [("in", 0), ("stop",)]))))
                before = bench.steps
                try:
                    if chance.random() < 0.3:
                        row = f"try {row}"
                        bench.explore(action)
                    else:
                        action(bench)
                    self.assertEqual(console.say(row), "ok")
                except ERRORS as error:
                    if "put" in row and len(bench.program[name]) < 3:
                        error = LookupError()
                    self.assertEqual(bench.steps, before)
                    with self.assertRaises((type(error), ValueError)):
                        console.say(row)
                told = (console.bench.program, console.bench.steps, console.bench.undone, list(console.bench.sizes()))
                self.assertEqual(told, (bench.program, bench.steps, bench.undone, list(bench.sizes())))
                self.assertEqual((console.say("text"), console.say("size")), (bench.program.text, str(bench.size)))
                outputs, end, _ = run(bench.program, [4, -5], 200)
                self.assertEqual(console.say("run 200 4 -5"), " ".join([*map(str, outputs), ":", end or "on"]))
