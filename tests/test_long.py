"""Long programs, which must be answered in a fraction of a second."""

import time
import unittest

from foldlines.facts import idle, is_idle, is_known, known, link_wanted, wanted, writes
from foldlines.folds import are_closed, classes, folded, is_unlike, unlike
from foldlines.gains import best, gain, is_gain, sites
from foldlines.holders import holds, shown
from foldlines.likeness import alike, core
from foldlines.outlining import inlined, outlined, rounds
from foldlines.passes import cheaper, dropped
from foldlines.programs import Program
from foldlines.straightening import straightened
from foldlines.sweeping import is_swept
from samples import is_right

NAMES = ["main"] + ["f" + chr(97 + at) for at in range(23)]
FOURS = ["main", "a", "b", "c"]


def calls_by_registers():
    """All functions may call all others by registers."""
    return Program({name: [("push", "link"), ("addr", 0, NAMES[at - 1]), *[("callr", 0)] * 6, ("pop", "link"),
                           ("back",)]
                    for at, name in enumerate(NAMES)})


def tails_in_a_ring():
    functions = {name: [*(("copy", at % 6, (at + 1) % 6) for at in range(8)), ("tail", NAMES[(number + 1) % 24])]
                 for number, name in enumerate(NAMES)}
    return Program({**functions, "fw": [("out", 5), ("out", 4), ("stop",)]})


def calls_in_a_ring():
    functions = {name: [("push", "link"), *[("in", 0), ("out", 0)] * 3, ("call", NAMES[at - 1]), ("pop", "link"),
                        ("back",)]
                 for at, name in enumerate(NAMES)}
    functions["main"][-1] = ("stop",)
    return Program(functions)


def loops():
    functions = {}
    for number, name in enumerate(FOURS):
        lines = [line for at in range(19) for line in
                 (("mark", label(at)), ("if", label(at * 7 % 19)), ("num", at % 6, at * 1000))]
        functions[name] = [*lines, ("out", 0), ("out", 1), ("tail", FOURS[number - 1])]
    return Program(functions)


def chains_of_jumps():
    functions = {}
    for number, name in enumerate(FOURS):
        chain = [line for at in reversed(range(18)) for line in
                 (("mark", label(at)), ("jump", label(at + 1)) if at < 17 else ("stop",))]
        ifs = [("if", label(at)) for at in range(18)]
        functions[name] = [("same", 0, 1), *ifs, ("tail", FOURS[number - 1]), *chain]
    return Program(functions)


def one_line_again():
    return Program({name: [("in", 0)] * 59 + [("tail", FOURS[at - 1])] for at, name in enumerate(FOURS)})


def texts_again():
    """Many texts that come again, with calls in between, which keep the link or lose it."""
    functions = {}
    for at, name in enumerate(FOURS):
        text = [("in", 0), ("num", 1, 1000 * at), ("add", 0, 0, 1), ("out", 0), ("call", FOURS[at - 1])]
        functions[name] = [("push", "link"), *text * 5, *text[:3] * 10, ("pop", "link"), ("back",)]
    return Program(functions)


def label(at):
    return "l" + chr(97 + at)


LONG = (calls_by_registers, tails_in_a_ring, calls_in_a_ring, loops, chains_of_jumps, one_line_again, texts_again)


class LongTest(unittest.TestCase):
    def in_time(self, action, *parts):
        before = time.perf_counter()
        told = action(*parts)
        self.assertLess(time.perf_counter() - before, 0.9, action)
        return told

    def test_programs_are_long(self):
        for make in LONG:
            program = make()
            self.assertIs(is_swept(program), True)
            self.assertGreater(sum(len(program[name]) for name in program.names), 200)

    def test_facts(self):
        for make in LONG:
            program = make()
            for action in (holds, shown, writes):
                self.in_time(action, program)
            self.assertIs(self.in_time(is_known, program, self.in_time(known, program)), True)
            self.assertIs(self.in_time(is_idle, program, self.in_time(idle, program)), True)
            for name in program.names:
                self.in_time(wanted, program, (name, 0))
                self.in_time(link_wanted, program, name)

    def test_passes(self):
        for make in LONG:
            program = make()
            for action in (straightened, cheaper, dropped, folded):
                self.assertTrue(is_right(self.in_time(action, program)))

    def test_folds(self):
        for make in LONG:
            program = make()
            self.assertIs(self.in_time(are_closed, program, self.in_time(classes, program)), True)
            for name in program.names:
                row = self.in_time(unlike, program, "main", name)
                self.assertTrue(row is None or self.in_time(is_unlike, program, "main", name, row))

    def test_likeness(self):
        for make in LONG:
            program = make()
            self.assertIs(self.in_time(alike, program, self.in_time(core, program)), None)
            self.assertIs(self.in_time(alike, program, folded(program)), None)

    def test_outlining(self):
        for make in (one_line_again, texts_again, loops):
            program = make()
            lines, _ = self.in_time(best, program) or (program["main"][2:3], 0)
            self.in_time(sites, program, lines)
            self.assertIs(self.in_time(is_gain, program, lines, self.in_time(gain, program, lines)), True)
            if best(program) is not None:
                made = self.in_time(outlined, program, "g", lines)
                self.assertTrue(is_right(self.in_time(inlined, made, "g")))

    def test_rounds(self):
        for make in (one_line_again, texts_again):
            before = time.perf_counter()
            told = list(rounds(make()))
            self.assertLess(time.perf_counter() - before, 0.9 * (len(told) + 1))
            self.assertGreater(len(told), 1)
