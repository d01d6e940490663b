"""Long programs, which must be answered in a fraction of a second."""

import time
import unittest

from foldlines.benches import Bench
from foldlines.benchlogs import LoggedBench
from foldlines.consoles import Console
from foldlines.ends import shared, sharing
from foldlines.facts import idle, is_idle, is_known, known, link_wanted, wanted, writes
from foldlines.folds import are_closed, classes, folded, is_unlike, unlike
from foldlines.gains import best, gain, is_gain, sites
from foldlines.holders import holds, shown
from foldlines.lengths import laid_size, lengths
from foldlines.likeness import alike, core
from foldlines.links import is_saving, linked, saving, saving_paper
from foldlines.outlining import inlined, outlined, rounds
from foldlines.passes import cheaper, dropped
from foldlines.patterns import best_near, near_gain, outlined_near
from foldlines.programs import BareProgram, Program
from foldlines.smallest import PASSES, passed, replayed, smallest
from foldlines.straightening import straightened
from foldlines.sweeping import is_swept
from samples import is_right

NAMES = ["main"] + ["f" + chr(97 + at) for at in range(23)]
FOURS = ["main", "a", "b", "c"]


def calls_by_registers():
    """All functions may call all others by registers."""
    return Program({name: [("push", "link"), ("addr", 0, NAMES[at - 1]), *[("callr", 0)] * 6, ("pop", "link"),
                           ("back",)]
                    for at, name in enumerate(NAMES)})


def tails_in_a_ring():
    functions = {name: [*(("copy", at % 6, (at + 1) % 6) for at in range(8)), ("tail", NAMES[(number + 1) % 24])]
                 for number, name in enumerate(NAMES)}
    return Program({**functions, "fw": [("out", 5), ("out", 4), ("stop",)]})


def calls_in_a_ring():
    functions = {name: [("push", "link"), *[("in", 0), ("out", 0)] * 3, ("call", NAMES[at - 1]), ("pop", "link"),
                        ("back",)]
                 for at, name in enumerate(NAMES)}
    functions["main"][-1] = ("stop",)
    return Program(functions)


def loops():
    functions = {}
    for number, name in enumerate(FOURS):
        lines = [line for at in range(19) for line in
                 (("mark", label(at)), ("if", label(at * 7 % 19)), ("num", at % 6, at * 1000))]
        functions[name] = [*lines, ("out", 0), ("out", 1), ("tail", FOURS[number - 1])]
    return Program(functions)


def chains_of_jumps():
    functions = {}
    for number, name in enumerate(FOURS):
        chain = [line for at in reversed(range(18)) for line in
                 (("mark", label(at)), ("jump", label(at + 1)) if at < 17 else ("stop",))]
        ifs = [("if", label(at)) for at in range(18)]
        functions[name] = [("same", 0, 1), *ifs, ("tail", FOURS[number - 1]), *chain]
    return Program(functions)


def one_line_again():
    return Program({name: [("in", 0)] * 59 + [("tail", FOURS[at - 1])] for at, name in enumerate(FOURS)})


def texts_again():
    """Many texts that come again, with calls in between, which keep the link or lose it."""
    functions = {}
    for at, name in enumerate(FOURS):
        text = [("in", 0), ("num", 1, 1000 * at), ("add", 0, 0, 1), ("out", 0), ("call", FOURS[at - 1])]
        functions[name] = [("push", "link"), *text * 5, *text[:3] * 10, ("pop", "link"), ("back",)]
    return Program(functions)


def numbers_again():
    """Lines of numbers that come again in all functions, but for one that is another one in each."""
    return Program({name: [("num", 0, at * 7 % 97 if at != 30 else number) for at in range(59)]
                    + [("tail", FOURS[number - 1])] for number, name in enumerate(FOURS)})


def numbers_with_other_registers():
    """Lines of numbers that come again, each function with other registers that are free there."""
    goals = [("if", label(at)) for at in range(3)]
    tails = [line for at in range(3) for line in (("mark", label(at)), ("tail", FOURS[at + 1]))]
    functions = {}
    for number, name in enumerate(FOURS):
        outs = [("out", key) for key in range(1, 6) if key not in ((1, 2), (2, 3), (3, 4), (4, 1))[number]]
        ends = [*outs, ("stop",), *tails] if name == "main" else [*outs, ("stop",)]
        many = 60 - len(ends) - (3 if name == "main" else 0)
        functions[name] = [*(goals if name == "main" else []), *[("num", 0, at * 7 % 97) for at in range(many)], *ends]
    return Program(functions)


def one_number_again():
    return Program({name: [("num", 0, 9)] * 59 + [("tail", FOURS[at - 1])] for at, name in enumerate(FOURS)})


def ends_again():
    """Many branches that end alike."""
    functions = {}
    for number, name in enumerate(FOURS):
        lines = [line for at in range(10) for line in
                 (("if", label(at)), ("out", at % 2), ("out", 1), ("out", 2), ("stop",), ("mark", label(at)))][:54]
        functions[name] = [*lines, ("in", 0), ("out", 1), ("out", 2), ("tail", FOURS[number - 1])]
    return Program(functions)


def bare_loops():
    """Bare functions with many calls between branches that go to and fro."""
    functions = {}
    for number, name in enumerate(FOURS):
        lines = [line for at in range(14) for line in
                 (("mark", label(at)), ("in", 0), ("if", label(at * 5 % 14)), ("call", FOURS[number - 1]))]
        functions[name] = [*lines, ("out", 0), ("less", 0, 1), ("in", 1), ("back",)]
    return BareProgram(functions)


def bare_rows():
    return BareProgram({name: [("call", NAMES[at - 1]), ("in", 0)] * 4 + [("in", 1), ("back",)]
                        for at, name in enumerate(NAMES)})


def label(at):
    return "l" + chr(97 + at)


LONG = (calls_by_registers, tails_in_a_ring, calls_in_a_ring, loops, chains_of_jumps, one_line_again, texts_again,
        numbers_again, numbers_with_other_registers, one_number_again, ends_again)


class LongTest(unittest.TestCase):
    def in_time(self, action, *parts):
        before = time.perf_counter()
        told = action(*parts)
        self.assertLess(time.perf_counter() - before, 0.9, action)
        return told

    def test_programs_are_long(self):
        for make in LONG:
            program = make()
            self.assertIs(is_swept(program), True)
            self.assertGreater(sum(len(program[name]) for name in program.names), 200)

    def test_facts(self):
        for make in LONG:
            program = make()
            for action in (holds, shown, writes):
                self.in_time(action, program)
            self.assertIs(self.in_time(is_known, program, self.in_time(known, program)), True)
            self.assertIs(self.in_time(is_idle, program, self.in_time(idle, program)), True)
            for name in program.names:
                self.in_time(wanted, program, (name, 0))
                self.in_time(link_wanted, program, name)

    def test_passes(self):
        for make in LONG:
            program = make()
            for action in (straightened, cheaper, dropped, folded):
                self.assertTrue(is_right(self.in_time(action, program)))

    def test_folds(self):
        for make in LONG:
            program = make()
            self.assertIs(self.in_time(are_closed, program, self.in_time(classes, program)), True)
            for name in program.names:
                row = self.in_time(unlike, program, "main", name)
                self.assertTrue(row is None or self.in_time(is_unlike, program, "main", name, row))

    def test_likeness(self):
        for make in LONG:
            program = make()
            self.assertIs(self.in_time(alike, program, self.in_time(core, program)), None)
            self.assertIs(self.in_time(alike, program, folded(program)), None)

    def test_outlining(self):
        for make in (one_line_again, texts_again, loops):
            program = make()
            lines, _ = self.in_time(best, program) or (program["main"][2:3], 0)
            self.in_time(sites, program, lines)
            self.assertIs(self.in_time(is_gain, program, lines, self.in_time(gain, program, lines)), True)
            if best(program) is not None:
                made = self.in_time(outlined, program, "g", lines)
                self.assertTrue(is_right(self.in_time(inlined, made, "g")))

    def test_patterns(self):
        found = 0
        for make in LONG:
            program = make()
            told = self.in_time(best_near, program)
            if told is not None:
                found += 1
                self.assertEqual(self.in_time(near_gain, program, told[0])[0], told[1])
                made = self.in_time(outlined_near, program, "g", told[0])
                self.assertTrue(is_right(made))
                self.assertEqual(program.size - made.size, told[1])
        self.assertGreater(found, 2)

    def test_ends(self):
        for make in LONG:
            program = make()
            made = self.in_time(shared, program)
            self.assertTrue(is_right(made))
            self.assertLessEqual(made.size, program.size)
            for name in program.names:
                self.in_time(sharing, program, name)
        self.assertLess(shared(ends_again()).size, ends_again().size - 30)

    def test_links(self):
        for make in (bare_loops, bare_rows):
            bare = make()
            self.assertIs(is_swept(bare), True)
            self.assertTrue(is_right(self.in_time(linked, bare)))
            for name in bare.names:
                paper = self.in_time(saving_paper, bare, name)
                self.assertIs(self.in_time(is_saving, bare, name, paper), True)
                self.assertEqual(self.in_time(saving, bare, name), paper[0])

    def test_lengths(self):
        for make in LONG:
            program = make()
            self.assertEqual(set(self.in_time(lengths, program).values()) - {1, 2}, set())
            self.assertLessEqual(self.in_time(laid_size, program), program.size)

    def test_rounds(self):
        for make in (one_line_again, texts_again):
            before = time.perf_counter()
            told = list(rounds(make()))
            self.assertLess(time.perf_counter() - before, 0.9 * (len(told) + 1))
            self.assertGreater(len(told), 1)

    def test_smallest(self):
        for make in LONG:
            program = make()
            before = time.perf_counter()
            made, row = smallest(program)
            self.assertLess(time.perf_counter() - before, 3, make)
            self.assertTrue(is_right(made))
            self.assertEqual(replayed(program, row), made)
            for word in PASSES:
                self.in_time(passed, program, word)

    def test_long_histories(self):
        bench = LoggedBench(Program.of(("in", 0), ("stop",)))
        many = 1500
        before = time.perf_counter()
        for at in range(many):
            bench.edit("main", [("in", at % 6), ("out", at % 5), ("stop",)])
        self.assertLess(time.perf_counter() - before, 0.9)
        self.in_time(bench.undo, many)
        self.in_time(bench.redo, many)
        for action in (lambda: bench.log, lambda: list(bench.sizes()), lambda: bench.steps,
                       lambda: [bench.program_at(at) for at in range(many + 1)],
                       lambda: bench.explore(lambda given: given.undo(many)),
                       lambda: [bench.attempt(lambda given: given.moment) for _ in range(100)]):
            self.in_time(action)
        self.assertEqual(self.in_time(LoggedBench.replayed, bench.program_at(0), bench.log).log, bench.log)

    def test_trials_within_many_trials(self):
        def action(bench):
            bench.make("dropped")
            return bench.explore(action) if bench.depth < 100 else bench.moment

        self.assertEqual(self.in_time(Bench(Program.of(("stop",))).explore, action), 100)

    def test_consoles_of_long_programs(self):
        for make in LONG:
            console = Console()
            self.in_time(console.say, "load\n" + make().text)
            for row in ("size", "text", "table", "shown", "live", "classes", "best", "run 9999 1 2 3", "make near",
                        "try make folded", "reason main 0 1", "undo"):
                self.in_time(console.say, row)
