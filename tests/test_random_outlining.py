"""Random programs, always the same ones: likeness, texts and their functions against the second reading and runs."""

import random
import unittest

import reference
from chances import built_programs, chunked_programs, tidy_program, variant
from foldlines.errors import NotStraight
from foldlines.folds import folded
from foldlines.gains import best, cover, gain, is_gain, sites
from foldlines.lines import lines_size
from foldlines.likeness import alike, core, is_parted
from foldlines.outlining import inlined, outlined, rounds
from foldlines.programs import Program
from foldlines.stretches import reason
from foldlines.sweeping import swept
from samples import is_right, run_alike, same

INPUTS = ([], [3, -1, 5, 0, 2])
LINK_LINES = (("push", "link"), ("pop", "link"))


def shapeless_programs(number, many):
    chance = random.Random(number)
    return [swept(Program(tidy_program(chance, False))) for _ in range(many)]


CHUNKED = chunked_programs(1, 40)
OTHERS = built_programs(2, 15) + shapeless_programs(3, 25)


def texts_of(chance, program, many):
    """Some texts of a program that may be called where they stand."""
    told = []
    for _ in range(many):
        name = chance.choice(program.names)
        first = chance.randrange(len(program[name]))
        length = chance.randrange(1, min(6, len(program[name]) - first) + 1)
        if reason(program, name, first, length) is None:
            told.append(program[name][first:first + length])
    return told


class LikenessTest(unittest.TestCase):
    def test_alike_and_core(self):
        chance = random.Random(4)
        told = {None: 0, "lines": 0, "address": 0}
        for program in CHUNKED + OTHERS + built_programs(5, 45):
            common = core(program)
            self.assertTrue(is_right(common))
            self.assertTrue(all(run_alike(program, common, inputs, 200) for inputs in INPUTS))
            self.assertIs(alike(program, common), None)
            self.assertEqual(core(common), common)
            for other in (folded(program), variant(chance, program), variant(chance, program),
                          variant(chance, program)):
                paper = alike(program, other)
                self.assertIs(paper is None, reference.is_alike(program.functions, other.functions))
                self.assertIs(core(other) == common, paper is None)
                told[paper and paper[0]] += 1
                if paper is None:
                    self.assertTrue(all(run_alike(program, other, inputs, 200) for inputs in INPUTS))
                else:
                    self.assertIs(is_parted(program, other, paper), True)
                    self.assertTrue(reference.is_parted(program.functions, other.functions, paper))
                    self.change(chance, program, other, paper)
        self.assertGreater(min(told.values()), 8)

    def change(self, chance, program, other, paper):
        """A paper with another index somewhere is held against the second reading."""
        rows = [list(row) for row in paper[1:]]
        row = chance.choice(rows)
        at = chance.randrange(len(row))
        row[at] = (*row[at][:2], chance.choice((None, 0, 1, 2, 3, 5)))
        changed = (chance.choice(("lines", paper[0])) if len(rows) == 1 else "address", *map(tuple, rows))
        right = reference.is_parted(program.functions, other.functions, changed)
        self.assertIs(is_parted(program, other, changed), right)


class TextsTest(unittest.TestCase):
    def test_reason(self):
        told = {}
        for program in CHUNKED[:15] + OTHERS:
            for name in program.names:
                lines = program[name][:25]
                for first in range(len(lines)):
                    for many in range(1, len(lines) - first + 1):
                        if len(program[name]) <= 25:
                            word = reason(program, name, first, many)
                            self.assertEqual(word, reference.reason(lines, first, many))
                            told[word] = told.get(word, 0) + 1
        # In a swept program only a mark stands behind an end, so that "jump" comes before "end".
        self.assertEqual(set(told), {None, "jump", "stack", "frame"})
        self.assertGreater(min(told.values()), 20)

    def test_gains(self):
        chance = random.Random(6)
        paying = 0
        for program in CHUNKED + OTHERS:
            functions = program.functions
            for text in texts_of(chance, program, 6):
                self.assertTrue(same(cover(text), reference.cover(text)))
                self.assertTrue(same(sites(program, list(text)), reference.text_sites(functions, text)))
                value = gain(program, text)
                self.assertTrue(same(value[:2], reference.gain(functions, text)))
                self.assertTrue(reference.is_gain(functions, text, value))
                self.assertIs(is_gain(program, text, value), True)
                paying += len(value[1]) > 1
                self.change(chance, program, text, value)
        self.assertGreater(paying, 30)

    def change(self, chance, program, text, value):
        """A gain with other sites or prices is held against the second reading."""
        number, places, prices = value
        told = [place for place, _ in sites(program, text)]
        for _ in range(4):
            some = tuple(sorted(chance.sample(told, chance.randrange(len(told) + 1))))
            other = {(name, at + chance.randrange(2)): price for (name, at), price in prices.items()
                     if at + 1 < len(program[name])}
            for changed in ((number, some, prices), (number, places, other), (number, some, other)):
                self.assertIs(is_gain(program, text, changed), reference.is_gain(program.functions, text, changed))

    def test_best(self):
        found = 0
        for program in CHUNKED + OTHERS:
            if sum(len(program[name]) for name in program.names) < 90:
                told = best(program)
                self.assertTrue(same(told, reference.best(program.functions)))
                found += told is not None
        self.assertGreater(found, 10)


class OutliningTest(unittest.TestCase):
    def check(self, program, made):
        self.assertTrue(is_right(made))
        self.assertTrue(all(run_alike(program, made, inputs, 200) for inputs in INPUTS))

    def test_outlined_and_inlined(self):
        chance = random.Random(7)
        for program in CHUNKED + OTHERS:
            for text in texts_of(chance, program, 4):
                value = gain(program, text)
                told = dict(sites(program, text))
                one = chance.choice(sorted(told))
                for places in ([one], None):
                    if places is None and not value[1]:
                        continue
                    made = outlined(program, "zz", text, places)
                    self.check(program, made)
                    chosen = value[1] if places is None else [one]
                    self.assertEqual(made.functions, dict(sorted(
                        reference.outlined(program.functions, "zz", text, chosen).items())))
                    saved = sum(told[place] for place in chosen)
                    self.assertEqual(program.size - made.size, saved - lines_size(cover(text)))
                    self.back(program, text, told, chosen, inlined(made, "zz"))

    def back(self, program, text, told, chosen, made):
        """What inlined makes of it: the program from before, but for link lines around some of the sites."""
        functions = {}
        for name in program.names:
            lines = list(program[name])
            for place in sorted(chosen, reverse=True):
                if place[0] == name and told[place] == lines_size(text) - 4:
                    lines.insert(place[1] + len(text), LINK_LINES[1])
                    lines.insert(place[1], LINK_LINES[0])
            functions[name] = tuple(lines)
        self.assertEqual(made.functions, functions)
        self.check(program, made)

    def test_inlined(self):
        told = {True: 0, False: 0}
        for program in CHUNKED + OTHERS + built_programs(8, 40):
            for name in program.names:
                straight = reference.is_straight(program.functions, name)
                told[straight] += 1
                if straight:
                    made = inlined(program, name)
                    self.check(program, made)
                    self.assertEqual(made.functions, reference.inlined(program.functions, name))
                else:
                    self.assertRaises(NotStraight, inlined, program, name)
        self.assertGreater(min(told.values()), 20)

    def test_rounds(self):
        many = 0
        for program in CHUNKED + OTHERS:
            before = program
            for name, lines, number, made in rounds(program):
                self.assertEqual(best(before), (lines, number))
                self.assertEqual(name, next(word for word in reference.words() if word not in before))
                self.assertEqual(made, outlined(before, name, lines))
                self.assertEqual(before.size - made.size, number)
                self.check(program, made)
                before = made
                many += 1
            self.assertIs(best(before), None)
        self.assertGreater(many, 20)
