"""The examples of the document, and what the programs that they begin with do."""

import unittest

from foldlines.benchlogs import LoggedBench
from foldlines.consoles import Console
from foldlines.ends import shared, sharing
from foldlines.errors import Untidy
from foldlines.facts import idle, known, wanted, writes
from foldlines.flow import own, rows
from foldlines.folds import classes, folded, is_unlike
from foldlines.gains import best, cover, gain
from foldlines.holders import shown
from foldlines.lengths import laid_size, lengths
from foldlines.likeness import alike, core
from foldlines.links import is_saving, linked, saving
from foldlines.outlining import inlined, outlined
from foldlines.passes import cheaper, dropped
from foldlines.programs import Program
from foldlines.runs import run
from foldlines.smallest import smallest
from foldlines.stretches import reason
from foldlines.sweeping import is_swept
from samples import again, bare, ends, facts, loop, rings, seen, twice


class ExamplesTest(unittest.TestCase):
    def test_rows_of_logs_and_consoles(self):
        console = Console()
        self.assertEqual(console.say("load\n" + Program.of(*[("in", 0), ("out", 0)] * 12, ("stop",)).text), "ok")
        self.assertRegex(console.say("best"), "^[0-9]+ : in 0 ; out 0")
        bench = LoggedBench(rings())
        bench.make("cheaper")
        bench.make("dropped")
        bench.make("folded")
        self.assertEqual(bench.log.split("\n")[2], "3 make folded 11")

    def test_twice(self):
        told = [twice().size, run(twice(), [], 20), rows(twice(), "main")[3], own(twice(), "main")]
        self.assertEqual(told, [9, ((10,), "back", 8), ("link",), (0, 1, 2, 4, 5)])

    def test_untidy(self):
        with self.assertRaises(Untidy) as caught:
            Program.of(("call", "main"), ("back",))
        self.assertEqual(repr(caught.exception), "Untidy('main')")

    def test_text(self):
        self.assertEqual(Program.of(("num", 0, -9), ("stop",)).text, "function main\nnum 0 -9\nstop")

    def test_shown(self):
        self.assertEqual((shown(seen()), shown(rings())), (("a", "b"), ()))

    def test_facts(self):
        told = [writes(facts()), known(facts())[("main", 3)], wanted(facts(), ("main", 3)), idle(facts())]
        self.assertEqual(told, [{"f": (2,), "main": (0, 1, 2)}, {0: 100, 1: 100}, (1,), (("f", 0), ("main", 0))])

    def test_passes(self):
        told = [cheaper(facts())["main"][2], dropped(facts())["main"], smallest(facts())[1]]
        self.assertEqual(told, [("copy", 1, 0), (("call", "f"), ("num", 1, 100), ("out", 1), ("stop",)), ("dropped",)])

    def test_folds(self):
        told = [classes(rings()), folded(rings()).names, folded(rings()).size]
        self.assertEqual(told, [(("a", "b"), ("main",)), ("a", "main"), 11])
        told = [shown(seen()), folded(seen())["b"], folded(seen()).size]
        self.assertEqual(told, [("a", "b"), (("tail", "a"),), 14])
        self.assertIs(is_unlike(seen(), "a", "main", (("a", "main", None),)), True)

    def test_likeness(self):
        told = [alike(rings(), folded(rings())), core(rings()).names, core(seen()).names]
        self.assertEqual(told, [None, ("a", "main"), ("a", "b", "main")])

    def test_lines_that_come_again(self):
        text = (("in", 0), ("add", 0, 0, 0), ("mul", 1, 0, 0), ("out", 1))
        self.assertEqual(again(), Program({"main": text + text + text + (("stop",),)}))
        told = [best(again()), gain(again(), text)[:2], outlined(again(), "g", text)["main"]]
        self.assertEqual(told, [
            ((("in", 0), ("add", 0, 0, 0), ("mul", 1, 0, 0), ("out", 1)), 1),
            (1, (("main", 0), ("main", 4), ("main", 8))), (("call", "g"), ("call", "g"), ("call", "g"), ("stop",))])
        told = [reason(again(), "main", 10, 3), inlined(outlined(again(), "g", text), "g") == again(), cover(text)[-1]]
        self.assertEqual(told, [None, True, ("back",)])

    def test_programs_of_the_document(self):
        self.assertEqual(run(facts(), [], 99), ((100,), "stop", 7))
        self.assertEqual(run(again(), [1, 2, 3], 99)[0], (4, 16, 36))
        self.assertEqual((ends().size, is_swept(ends())), (12, True))
        self.assertEqual((loop().size, is_swept(loop())), (5, True))
        self.assertEqual((is_swept(bare()), run(bare(), [-5, 6], 99)[:2]), (True, ((-5,), "back")))

    def test_shared_ends(self):
        told = [sharing(ends(), "main"), ends().size, shared(ends()).size, shared(ends())["main"][4],
                shared(ends())["main"][-1]]
        self.assertEqual(told, [((11, 6, 3),), 12, 11, ("mark", "b"), ("jump", "b")])

    def test_link_lines(self):
        self.assertEqual([saving(bare(), "f"), linked(bare())["f"]], [
            (3,), (("in", 0), ("less", 0, 1), ("if", "out"), ("push", "link"), ("call", "f"), ("pop", "link"),
                   ("mark", "out"), ("back",))])
        self.assertIs(is_saving(bare(), "f", ((3,), ((-1, 0, 1, 2, 3), (5, 4, 3)))), True)

    def test_lengths(self):
        self.assertEqual([lengths(loop()), loop().size, laid_size(loop())], [{("main", 3): 1}, 5, 4])
