"""Random programs, always the same ones, against the second reading in reference.py."""

import random
import unittest

import reference
from chances import NAMES, any_lines, tidy_lines, tidy_program
from foldlines.errors import Untidy
from foldlines.flow import own, reached, rows, ways
from foldlines.holders import holds
from foldlines.programs import BareProgram, Program
from foldlines.runs import Run, run
from foldlines.sweeping import is_swept, swept

class RandomTest(unittest.TestCase):
    def test_tidiness(self):
        for bare, kind in ((False, Program), (True, BareProgram)):
            chance = random.Random(1)
            told = {True: 0, False: 0}
            rest = {name: [("back",)] for name in NAMES}
            for _ in range(3000):
                lines = any_lines(chance, bare)
                tidy = reference.is_tidy(lines, bare)
                told[tidy] += 1
                try:
                    kind({**rest, "main": lines})
                    self.assertTrue(tidy, lines)
                except Untidy:
                    self.assertFalse(tidy, lines)
            self.assertGreater(min(told.values()), 150)

    def test_flow(self):
        chance = random.Random(2)
        for _ in range(300):
            program = Program({**{name: [("back",)] for name in NAMES}, "main": tidy_lines(chance, False)})
            lines = program["main"]
            states = reference.states(lines)
            come_to = tuple(sorted({at for at, _, _ in states}))
            lost = {at for at, _, kept in states if not kept}
            self.assertEqual(reached(program, "main"), come_to)
            leads = [(at, tuple(reference.leads(lines, at))) for at in come_to]
            self.assertEqual(list(ways(program, "main").items()), leads)
            self.assertEqual(list(rows(program, "main").items()), sorted({(at, row) for at, row, _ in states}))
            self.assertEqual(own(program, "main"), tuple(at for at in come_to if at not in lost))

    def test_runs(self):
        for bare, kind in ((False, Program), (True, BareProgram)):
            chance = random.Random(3)
            ends = {}
            for _ in range(500):
                functions = tidy_program(chance, bare)
                program = kind(functions)
                inputs = [chance.randrange(-3, 4) for _ in range(chance.randrange(4))]
                most = chance.choice((0, 3, 60, 300))
                outputs, end, steps, visits, depth = reference.run(functions, bare, inputs, most)
                ran = Run(program, inputs)
                ran.go(most)
                self.assertEqual((ran.outputs, ran.end, ran.steps, ran.depth), (outputs, end, steps, depth), functions)
                self.assertEqual(list(ran.visits.items()), sorted(visits.items()))
                self.assertEqual(run(program, inputs, most), (outputs, end, steps))
                self.assertEqual(len(list(zip(range(most), Run(program, inputs).walk()))), steps)
                ends[end] = ends.get(end, 0) + 1
            self.assertGreater(min(ends.values()), 10)
            self.assertEqual(len(ends), 4)

    def test_sweeping(self):
        for bare, kind in ((False, Program), (True, BareProgram)):
            chance = random.Random(4)
            for _ in range(150):
                functions = tidy_program(chance, bare)
                program = kind(functions)
                small = swept(program)
                expected = reference.swept(functions)
                self.assertEqual(small.functions, expected)
                self.assertIs(is_swept(program), program.functions == expected)
                self.assertIs(is_swept(small), True)
                self.assertEqual(kind(small.functions), small)
                inputs = [chance.randrange(-3, 4) for _ in range(3)]
                self.assertEqual(run(small, inputs, 200), run(program, inputs, 200))

    def test_holds(self):
        chance = random.Random(5)
        for _ in range(150):
            program = swept(Program(tidy_program(chance, False)))
            self.assertEqual(list(holds(program).items()), list(reference.holds(program.functions).items()))

    def test_texts(self):
        for bare, kind in ((False, Program), (True, BareProgram)):
            chance = random.Random(6)
            for _ in range(100):
                program = kind(tidy_program(chance, bare))
                self.assertEqual(kind.read(program.text), program)
