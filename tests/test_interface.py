"""The names, arguments and kinds of what the document lists for the files that are there."""

import ast
import inspect
import pathlib
import unittest

from foldlines import ends, errors, facts, flow, folds, gains, holders, lengths, likeness, links, outlining, passes
from foldlines import patterns, runs, smallest, straightening, stretches, sweeping
from foldlines.benches import Bench, CountingBench, GuardedBench, GuardedCountingBench
from foldlines.benchlogs import LoggedBench
from foldlines.consoles import Console
from foldlines.errors import NotSwept
from foldlines.programs import BareProgram, Program
from foldlines.runs import Run, run
from samples import bare, same, twice

FUNCTIONS = {
    flow: {"reached": ["program", "name"], "ways": ["program", "name"], "rows": ["program", "name"],
           "own": ["program", "name"], "live": ["program"]},
    runs: {"run": ["program", "inputs", "most"]},
    sweeping: {"swept": ["program"], "is_swept": ["program"]},
    holders: {"holds": ["program"], "goals": ["program", "place"], "shown": ["program"]},
    facts: {"writes": ["program"], "known": ["program"], "is_known": ["program", "value"],
            "wanted": ["program", "place"], "idle": ["program"], "is_idle": ["program", "value"],
            "link_wanted": ["program", "name"]},
    straightening: {"straightened": ["program"]},
    passes: {"cheaper": ["program", "table"], "dropped": ["program", "places"]},
    folds: {"classes": ["program"], "are_closed": ["program", "value"], "unlike": ["program", "f", "g"],
            "is_unlike": ["program", "f", "g", "value"], "folded": ["program"]},
    likeness: {"alike": ["one", "other"], "is_parted": ["one", "other", "value"], "core": ["program"]},
    stretches: {"reason": ["program", "name", "first", "many"]},
    gains: {"sites": ["program", "lines"], "cover": ["lines"], "best": ["program"], "gain": ["program", "lines"],
            "is_gain": ["program", "lines", "value"]},
    outlining: {"outlined": ["program", "name", "lines", "places"], "inlined": ["program", "name"],
                "rounds": ["program"]},
    patterns: {"near_gain": ["program", "pattern"], "best_near": ["program"],
               "outlined_near": ["program", "name", "pattern"]},
    ends: {"sharing": ["program", "name"], "shared": ["program"]},
    links: {"saving": ["bare", "name"], "linked": ["bare"], "saving_paper": ["bare", "name"],
            "is_saving": ["bare", "name", "value"]},
    lengths: {"lengths": ["program"], "laid_size": ["program"]},
    smallest: {"passed": ["program", "word"], "smallest": ["program"], "replayed": ["program", "row"]},
}
METHODS = {
    Program: {"__init__": ["self", "functions"], "size_of": ["self", "name"], "places": ["self"],
              "with_function": ["self", "name", "lines"], "without": ["self", "*names"], "of": ["cls", "*lines"],
              "read": ["cls", "text"], "size_of_line": ["line"], "__getitem__": None, "__len__": None,
              "__contains__": None, "__eq__": None},
    BareProgram: {"__init__": ["self", "functions"]},
    Run: {"__init__": ["self", "program", "inputs"], "step": ["self"], "go": ["self", "many"], "walk": ["self"]},
    Bench: {"__init__": ["self", "program"], "edit": ["self", "name", "lines"], "make": ["self", "word"],
            "put": ["self", "name", "lines"], "take": ["self", "name"], "program_at": ["self", "number"],
            "sizes": ["self"], "undo": ["self", "count"], "redo": ["self", "count"], "attempt": ["self", "action"],
            "explore": ["self", "action"], "of_text": ["cls", "text"]},
    GuardedBench: {"__init__": ["self", "program", "*guards"]},
    CountingBench: {"__init__": ["self", "program"]},
    GuardedCountingBench: {"__init__": ["self", "program", "*guards"]},
    LoggedBench: {"__init__": ["self", "program"], "replayed": ["program", "log"]},
    Console: {"__init__": ["self"], "say": ["self", "row"]},
}
PROPERTIES = {
    Program: ["functions", "names", "size", "text"],
    Run: ["outputs", "end", "steps", "place", "depth", "visits"],
    Bench: ["program", "size", "moment", "undone", "depth", "steps"],
    CountingBench: ["counts"],
    LoggedBench: ["log"],
    Console: ["bench"],
}


def parameters(action):
    told = inspect.signature(action).parameters.values()
    return ["*" + one.name if one.kind is one.VAR_POSITIONAL else one.name for one in told]


class InterfaceTest(unittest.TestCase):
    def test_functions(self):
        for module, functions in FUNCTIONS.items():
            for name, expected in functions.items():
                with self.subTest(name):
                    action = getattr(module, name)
                    self.assertEqual(action.__module__, module.__name__)
                    self.assertEqual(parameters(action), expected)

    def test_methods_stand_in_their_classes(self):
        for kind, methods in METHODS.items():
            for name, expected in methods.items():
                with self.subTest(kind=kind, name=name):
                    self.assertIn(name, vars(kind))
                    action = vars(kind)[name]
                    action = getattr(action, "__func__", action)
                    if expected is not None:
                        self.assertEqual(parameters(action), expected)

    def test_kinds_of_methods(self):
        for name in ("of", "read"):
            self.assertIsInstance(vars(Program)[name], classmethod)
        self.assertIsInstance(vars(Program)["size_of_line"], staticmethod)
        self.assertTrue(inspect.isgeneratorfunction(Program.places))
        self.assertTrue(inspect.isgeneratorfunction(Run.walk))
        self.assertTrue(inspect.isgeneratorfunction(outlining.rounds))
        self.assertIsInstance(vars(Bench)["of_text"], classmethod)
        self.assertIsInstance(vars(LoggedBench)["replayed"], staticmethod)
        self.assertTrue(inspect.isgeneratorfunction(Bench.sizes))

    def test_properties_stand_in_their_classes(self):
        for kind, names in PROPERTIES.items():
            for name in names:
                self.assertIsInstance(vars(kind)[name], property)

    def test_properties_are_not_assigned(self):
        for thing, kind in ((twice(), Program), (Run(twice()), Run), (Bench(twice()), Bench), (Console(), Console),
                            (CountingBench(twice()), CountingBench), (LoggedBench(twice()), LoggedBench)):
            for name in PROPERTIES[kind]:
                with self.assertRaises(AttributeError):
                    setattr(thing, name, None)

    def test_what_need_not_be_given(self):
        self.assertEqual(inspect.signature(Run).parameters["inputs"].default, ())
        for action, name in ((passes.cheaper, "table"), (passes.dropped, "places"), (outlining.outlined, "places")):
            self.assertIs(inspect.signature(action).parameters[name].default, None)
        for action in (Bench.undo, Bench.redo):
            self.assertTrue(same(inspect.signature(action).parameters["count"].default, 1))

    def test_classes_stand_in_their_files(self):
        self.assertEqual((Program.__module__, BareProgram.__module__), ("foldlines.programs", "foldlines.programs"))
        self.assertEqual(Run.__module__, "foldlines.runs")
        for kind in (Bench, GuardedBench, CountingBench, GuardedCountingBench):
            self.assertEqual(kind.__module__, "foldlines.benches")
        self.assertEqual((LoggedBench.__module__, Console.__module__), ("foldlines.benchlogs", "foldlines.consoles"))
        self.assertEqual(BareProgram.__bases__, (Program,))
        self.assertIsInstance(bare(), Program)
        for name, value in vars(errors).items():
            if isinstance(value, type):
                self.assertEqual(value.__module__, "foldlines.errors", name)

    def test_the_package_binds_nothing(self):
        import foldlines
        tree = ast.parse(pathlib.Path(foldlines.__file__).read_text())
        self.assertEqual([kind for kind in map(type, tree.body) if kind is not ast.Expr], [])


class ConventionsTest(unittest.TestCase):
    def test_equal_calls_return_equal_results(self):
        for action in (flow.live, holders.holds, holders.shown, sweeping.swept, facts.writes, facts.known, facts.idle,
                       straightening.straightened, passes.cheaper, passes.dropped, folds.classes, folds.folded,
                       likeness.core, gains.best, patterns.best_near, ends.shared, lengths.lengths,
                       lengths.laid_size, smallest.smallest):
            self.assertEqual(action(twice()), action(twice()))
        self.assertEqual(links.linked(bare()), links.linked(bare()))
        self.assertEqual(links.saving_paper(bare(), "f"), links.saving_paper(bare(), "f"))
        self.assertEqual(run(twice(), [], 99), run(twice(), [], 99))

    def test_a_call_that_raises_changes_nothing(self):
        program = twice()
        for action in (lambda: program.with_function("f", [None]), lambda: program.without("double"),
                       lambda: program["gone"], lambda: program.size_of([]), lambda: flow.rows(program, None),
                       lambda: holders.goals(program, ("main", 9)), lambda: Run(program, [None]),
                       lambda: program.without("gone")):
            with self.assertRaises((ValueError, LookupError)):
                action()
            self.assertEqual(program, twice())

    def test_values_go_on_being_what_they_were(self):
        functions = {"main": [("addr", 0, "f"), ("stop",)], "f": [("back",)]}
        program = Program(functions)
        functions["main"][0] = ("num", 0, 1)
        functions["f"].append(("back",))
        self.assertEqual(holders.holds(program)[0], ("f",))
        self.assertEqual(flow.live(program), ("f", "main"))
        self.assertEqual(sweeping.swept(program), program)

    def test_two_errors_of_one_call(self):
        program = Program.of(("stop",), ("stop",))
        self.assertRaises(NotSwept, holders.goals, program, None)
        self.assertRaises(errors.UnknownName, flow.reached, program, None)

    def test_programs_are_not_gone_through(self):
        with self.assertRaises(TypeError):
            list(twice())
