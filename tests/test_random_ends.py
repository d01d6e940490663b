"""Random programs, always the same ones: patterns, ends, link lines and lengths against the second reading and runs."""

import random
import unittest

import reference
import reference_more as more
from chances import bare_programs, built_programs, chunked_programs, crowded_programs, ended_programs
from chances import jumping_programs, numbered_programs
from foldlines.ends import shared, sharing
from foldlines.lengths import laid_size, lengths
from foldlines.lines import lines_size
from foldlines.links import is_saving, linked, saving, saving_paper
from foldlines.patterns import best_near, near_gain, outlined_near
from samples import is_right, run_alike, same

INPUTS = ([], [3, -1, 5, 0, 2], [1, -1, -2, 4, 0, 7])


def patterns_of(chance, program, many):
    """Some patterns that stand somewhere in a program and may be called."""
    told = []
    while len(told) < many:
        name = chance.choice(program.names)
        lines = program[name]
        at = chance.randrange(len(lines))
        first, last = max(0, at - chance.randrange(6)), min(len(lines), at + 1 + chance.randrange(6))
        text = (*lines[first:at], ("num", chance.randrange(4), None), *lines[at + 1:last])
        if lines[at][0] == "num":
            text = (*lines[first:at], ("num", lines[at][1], None), *lines[at + 1:last])
        told.append(text if more.is_pattern(text) else None)
    return [text for text in told if text is not None]


class RandomTest(unittest.TestCase):
    def check(self, program, made):
        self.assertTrue(is_right(made))
        self.assertTrue(all(run_alike(program, made, inputs, 200) for inputs in INPUTS))


class PatternsTest(RandomTest):
    def test_best_near(self):
        found = 0
        programs = numbered_programs(1, 20) + chunked_programs(2, 15) + built_programs(3, 10) + crowded_programs(15, 75)
        for program in programs:
            if sum(len(program[name]) for name in program.names) < 110:
                told = best_near(program)
                self.assertTrue(same(told, more.best_near(program.functions)))
                if told is not None:
                    found += 1
                    made = outlined_near(program, "zz", told[0])
                    self.assertEqual(program.size - made.size, told[1])
                    self.check(program, made)
        self.assertGreater(found, 25)

    def test_near_gain(self):
        chance = random.Random(4)
        registers = set()
        for program in numbered_programs(5, 40) + chunked_programs(6, 20) + built_programs(7, 20):
            functions = program.functions
            for pattern in patterns_of(chance, program, 4):
                told = near_gain(program, list(pattern))
                self.assertTrue(same(told, more.near_gain(functions, pattern)))
                if told is not None and told[2]:
                    registers.add(told[1])
                    made = outlined_near(program, "zz", pattern)
                    self.assertEqual(made.functions, more.outlined_near(functions, "zz", pattern))
                    self.assertEqual(program.size - made.size, told[0])
                    self.check(program, made)
        self.assertGreater(len(registers), 3)


class EndsTest(RandomTest):
    def test_sharing_and_shared(self):
        told = {}
        for program in ended_programs(8, 150) + built_programs(9, 30) + chunked_programs(10, 20):
            saved = 0
            for name in program.names:
                lines = program[name]
                value = sharing(program, name)
                self.assertTrue(same(value, more.sharing(lines)))
                told[len(value)] = told.get(len(value), 0) + 1
                saves = sum(lines_size(lines[end + 1 - k:end + 1]) - 2 for end, _, k in value)
                self.assertEqual(saves, more.most_shared(lines))
                saved += saves
            made = shared(program)
            self.assertEqual(made.functions, {name: more.shared(program[name], reference.words)
                                              for name in program.names})
            self.assertEqual(program.size - made.size, saved)
            self.check(program, made)
        self.assertGreater(min(told[0], told[1], told[2]), 10)


class LinksTest(RandomTest):
    def test_saving_against_all_choices(self):
        several = 0
        for bare in bare_programs(11, 150):
            for name in bare.names:
                lines = bare[name]
                least, found = more.least_choices(lines)
                fewest = min(found, key=len)
                self.assertTrue(same(saving(bare, name), tuple(sorted(fewest))))
                self.assertTrue(all(fewest <= saved for saved in found))
                saved, ways = saving_paper(bare, name)
                self.assertEqual(len(ways), least)
                self.assertTrue(more.is_saving(lines, (saved, ways)))
                several += len(found) > 1
                for other in found[:5]:
                    self.assertIs(is_saving(bare, name, (tuple(sorted(other)), ways)), True)
                self.change(random.Random(len(lines)), bare, name, ways)
        self.assertGreater(several, 40)

    def change(self, chance, bare, name, ways):
        """Papers with other lines saved, or with other nodes on the ways, are held against the second reading."""
        indexes = range(len(bare[name]))
        for _ in range(4):
            saved = tuple(at for at in indexes if at in saving(bare, name) or chance.random() < 0.1)
            changed = [list(way) for way in ways]
            if changed and chance.random() < 0.5:
                way = chance.choice(changed)
                way[chance.randrange(len(way))] = chance.choice((-1, *indexes))
            paper = (saved, tuple(map(tuple, changed)))
            right = all(one != other for way in paper[1] for one, other in zip(way, way[1:]))
            self.assertIs(is_saving(bare, name, paper), right and more.is_saving(bare[name], paper))

    def test_linked(self):
        for bare in bare_programs(12, 200):
            made = linked(bare)
            self.check(bare, made)
            self.assertEqual(made.functions, {name: more.linked(bare[name], saving(bare, name)) for name in bare.names})
            pushes = sum(len(saving_paper(bare, name)[1]) for name in bare.names)
            self.assertEqual(made.size - bare.size, pushes)


class LengthsTest(RandomTest):
    def test_lengths_against_all_dicts(self):
        told = {1: 0, 2: 0}
        for program in jumping_programs(13, 150) + ended_programs(14, 30):
            expected = {(name, at): length for name in program.names for at, length in
                        more.lengths(program[name]).items()}
            self.assertTrue(same(lengths(program), expected))
            self.assertEqual(laid_size(program), program.size - list(expected.values()).count(1))
            for length in expected.values():
                told[length] += 1
        self.assertGreater(min(told.values()), 100)
