"""Random programs, always the same ones: facts, passes and folds against the second reading, and against runs."""

import random
import unittest

import reference
from chances import built_programs, tidy_program
from foldlines.facts import idle, is_idle, is_known, known, link_wanted, wanted, writes
from foldlines.folds import are_closed, classes, folded, is_unlike, unlike
from foldlines.passes import cheaper, dropped
from foldlines.programs import Program
from foldlines.straightening import straightened
from foldlines.sweeping import swept
from samples import is_right, run_alike, same

INPUTS = ([], [3, -1, 5, 0, 2], [1, 1, 1, 1, 7])


def shapeless_programs(number, many):
    chance = random.Random(number)
    return [swept(Program(tidy_program(chance, False))) for _ in range(many)]


BUILT = built_programs(1, 40)
SHAPELESS = shapeless_programs(2, 60)


class FactsTest(unittest.TestCase):
    def test_writes_and_known(self):
        for program in BUILT[:25] + SHAPELESS:
            functions = program.functions
            self.assertTrue(same(writes(program), reference.writes(functions)))
            table = known(program)
            self.assertTrue(same(table, reference.known(functions)))
            self.assertIs(is_known(program, table), True)

    def test_tables_with_one_fact_less(self):
        told = {True: 0, False: 0}
        for program in SHAPELESS + BUILT[:20]:
            for place, row in list(known(program).items())[:20]:
                for key in row:
                    table = known(program)
                    del table[place][key]
                    functions = program.functions
                    right = all(key not in table[place[0], goal]
                                or functions[place[0]][place[1]][:2] in (("num", key), ("copy", key))
                                for goal in reference.leads(functions[place[0]], place[1]))
                    if functions[place[0]][place[1]][0] != "copy":
                        self.assertIs(is_known(program, table), right)
                        told[right] += 1
        self.assertGreater(min(told.values()), 20)

    def test_wanted_and_idle(self):
        for program in BUILT[:12] + SHAPELESS[:30]:
            functions = program.functions
            ahead = reference.wanted(functions)[0]
            for place, _ in program.places():
                self.assertTrue(same(wanted(program, place), reference.in_order(ahead[place])))
            self.assertTrue(same(idle(program), reference.idle(functions)))
            self.assertIs(is_idle(program, idle(program)), True)

    def test_lines_that_may_go_together(self):
        chance = random.Random(3)
        told = {True: 0, False: 0}
        for program in BUILT[:10] + SHAPELESS[:30]:
            functions = program.functions
            pure = [place for place, line in program.places() if line[0] in ("num", "copy", "addr", "read", "same")]
            for rest in (pure, list(idle(program)), list(idle(program))):
                places = chance.sample(rest, chance.randrange(min(len(rest), 6) + 1))
                right = reference.is_idle(functions, places)
                self.assertIs(is_idle(program, places), right)
                told[right] += 1
                if right:
                    made = dropped(program, places)
                    self.assertTrue(is_right(made))
                    self.assertTrue(all(run_alike(program, made, inputs, 200) for inputs in INPUTS))
        self.assertGreater(min(told.values()), 10)

    def test_link_wanted(self):
        for program in BUILT + SHAPELESS:
            for name in program.names:
                self.assertTrue(same(link_wanted(program, name), reference.link_wanted(program[name])))


class PassesTest(unittest.TestCase):
    def test_what_passes_make(self):
        programs = built_programs(4, 60) + shapeless_programs(5, 60)
        for action in (straightened, cheaper, dropped, folded):
            smaller = 0
            for program in programs:
                made = action(program)
                self.assertTrue(is_right(made))
                self.assertLessEqual(made.size, program.size)
                self.assertEqual(action(program), made)
                smaller += made.size < program.size
                for inputs in INPUTS:
                    self.assertTrue(run_alike(program, made, inputs, 300), (action, program.text))
            self.assertGreater(smaller, 15, action)

    def test_straightened(self):
        for program in BUILT + SHAPELESS:
            self.assertEqual(straightened(program).functions, reference.straightened(program.functions))

    def test_tables_that_know_less(self):
        chance = random.Random(6)
        for program in BUILT:
            table = {place: {} for place in known(program)}
            reg = chance.randrange(6)
            for place, row in known(program).items():
                table[place] = {key: number for key, number in row.items() if key == reg}
            if is_known(program, table):
                made = cheaper(program, table)
                self.assertTrue(is_right(made))
                self.assertTrue(all(run_alike(program, made, inputs, 200) for inputs in INPUTS))


class FoldsTest(unittest.TestCase):
    def test_classes_and_folded(self):
        for program in BUILT[:25] + SHAPELESS[:30]:
            functions = program.functions
            self.assertTrue(same(classes(program), reference.classes(functions)))
            self.assertIs(are_closed(program, classes(program)), True)
            self.assertEqual(folded(program).functions, reference.folded(functions))

    def test_rows(self):
        for program in BUILT[:25] + SHAPELESS[:30]:
            functions = program.functions
            part = {name: number for number, names in enumerate(classes(program)) for name in names}
            for f in program.names:
                for g in program.names:
                    row = unlike(program, f, g)
                    self.assertIs(row is None, part[f] == part[g])
                    if row is not None:
                        self.assertTrue(reference.is_unlike(functions, f, g, row))
                        self.assertIs(is_unlike(program, f, g, row), True)

    def test_changed_rows(self):
        chance = random.Random(7)
        told = {True: 0, False: 0}
        for program in BUILT:
            for f, g in [(chance.choice(program.names), chance.choice(program.names)) for _ in range(6)]:
                row = list(unlike(program, f, g) or [(f, g, 0)])
                at = chance.randrange(len(row))
                index = chance.choice((None, chance.randrange(8)))
                row[at] = (*row[at][:2], index)
                right = reference.is_unlike(program.functions, f, g, tuple(row))
                self.assertIs(is_unlike(program, f, g, tuple(row)), right)
                told[right] += 1
        self.assertGreater(min(told.values()), 20)
