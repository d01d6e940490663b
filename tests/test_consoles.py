import unittest

from foldlines.benches import Bench
from foldlines.consoles import Console
from foldlines.errors import InvalidFunctions, InvalidLine, InvalidLines, InvalidPlaces, InvalidSay, InvalidStretch
from foldlines.errors import InvalidText, NotStraight, OutOfRange, SameName, TooMany, UnknownName, Untidy
from foldlines.folds import folded
from foldlines.outlining import inlined, outlined
from foldlines.programs import Program
from foldlines.smallest import PASSES, passed
from foldlines.sweeping import swept
from samples import ANY_VALUES, again, ends, facts, not_swept, rings, same, seen, twice

STOP = ("stop",)
BACK = ("back",)
TEXT = (("in", 0), ("add", 0, 0, 0), ("mul", 1, 0, 0), ("out", 1))
TEXT_ROW = "in 0 ; add 0 0 0 ; mul 1 0 0 ; out 1"
HIGH, LOW = 2 ** 31 - 1, -(2 ** 31)

# A row of each sort, which the console with the program of loaded() takes.
ROWS = ("edit main stop", f"edit main {TEXT_ROW} ; stop", "make folded", "put g main 0 4", "take double", "undo",
        "undo 0", "undo 1", "redo", "redo 1", "size", "text", "run 99", "run 99 1 -2", "shown", "live", "classes",
        "reason main 0 4", "best", "table", "try size", "try undo 1", "try edit main stop", "try run 5 1",
        "load\nfunction main\nstop")


def loaded(program):
    console = Console()
    console.say("load\n" + program.text)
    return console


def with_steps():
    """A console of a program in which a text comes again, and double is called, with a step done and one undone."""
    console = loaded(Program({"main": [("call", "double"), *TEXT, *TEXT, *TEXT, STOP], "double": [("in", 5), BACK]}))
    console.say("make near")
    console.say("make near")
    console.say("undo")
    return console


def told(console):
    bench = console.bench
    return (bench.program, bench.size, bench.moment, bench.undone, bench.depth, bench.steps, list(bench.sizes()))


class ConsoleTest(unittest.TestCase):
    def test_a_new_console(self):
        console = Console()
        self.assertIs(type(console.bench), Bench)
        self.assertEqual((console.bench.program, console.bench.moment), (Program.of(BACK), 0))
        self.assertEqual((console.say(row="text"), console.say("size")), ("function main\nback", "1"))
        with self.assertRaises(AttributeError):
            console.bench = None

    def test_all_rows_are_taken(self):
        for row in ROWS:
            self.assertIs(type(with_steps().say(row)), str)

    def test_load(self):
        console = with_steps()
        before = console.bench
        self.assertTrue(same(console.say("load\n" + rings().text), "ok"))
        self.assertIsNot(console.bench, before)
        self.assertEqual((console.bench.program, console.bench.moment, console.bench.undone), (rings(), 0, 0))
        for program in not_swept():
            self.assertEqual(loaded(program).bench.program, swept(program))

    def stays(self, console, error, row):
        before, bench = told(console), console.bench
        with self.assertRaises(error, msg=row) as caught:
            console.say(row)
        self.assertEqual(told(console), before)
        self.assertIs(console.bench, bench)
        return caught.exception

    def test_load_with_errors(self):
        console = with_steps()
        self.assertEqual(self.stays(console, InvalidText, "load\n").index, 0)
        self.assertEqual(self.stays(console, InvalidText, "load\nfunction main\nstops").index, 1)
        self.assertEqual(self.stays(console, InvalidText, "load\nfunction main\nstop\n").index, 2)
        self.assertEqual(self.stays(console, InvalidText, "load\nload\nfunction main\nstop").index, 0)
        self.stays(console, InvalidFunctions, "load\nfunction f\nstop")
        self.stays(console, InvalidLine, "load\nfunction main\ncall f\nstop")
        self.stays(console, Untidy, "load\nfunction main\nin 0")
        self.stays(console, TooMany, "load\nfunction main" + "\nstop" * 61)

    def test_edit(self):
        console = loaded(twice())
        self.assertTrue(same(console.say("edit double in 5 ; out 5 ; back"), "ok"))
        self.assertEqual(console.bench.program["double"], (("in", 5), ("out", 5), BACK))
        console.say("edit main num 0 -5 ; num 1 2147483647 ; stop")
        self.assertEqual(console.bench.program, Program.of(("num", 0, -5), ("num", 1, HIGH), STOP))
        self.assertEqual(console.bench.steps, (("edit", "double"), ("edit", "main")))

    def test_edit_with_errors(self):
        console = with_steps()
        self.assertEqual(self.stays(console, UnknownName, "edit gone stop").value, "gone")
        self.assertEqual(self.stays(console, InvalidLine, "edit main call gone ; stop").index, 0)
        self.stays(console, Untidy, "edit main in 0")
        self.assertEqual(self.stays(console, TooMany, "edit main " + " ; ".join(["stop"] * 61)).limit, 60)

    def test_make(self):
        for word in PASSES:
            for program in (again(), rings(), facts(), ends()):
                console = loaded(program)
                self.assertEqual(console.say(f"make {word}"), "ok")
                self.assertEqual(console.bench.program, passed(program, word))
                self.assertEqual(console.bench.steps, (("make", word),))

    def test_put_and_take(self):
        console = loaded(again())
        self.assertTrue(same(console.say("put g main 4 4"), "ok"))
        small = outlined(again(), "g", TEXT)
        self.assertEqual((console.bench.program, console.bench.steps), (small, (("put", "g"),)))
        self.assertTrue(same(console.say("take g"), "ok"))
        self.assertEqual((console.bench.program, console.bench.steps[1]), (inlined(small, "g"), ("take", "g")))

    def test_put_with_errors(self):
        console = with_steps()
        self.assertEqual(self.stays(console, UnknownName, "put main gone 0 1").value, "gone")
        self.assertTrue(same(self.stays(console, InvalidStretch, "put main main 0 0").value, (0, 0)))
        self.assertTrue(same(self.stays(console, InvalidStretch, "put main main 14 1").value, (14, 1)))
        self.assertTrue(same(self.stays(console, InvalidStretch, "put g main 13 2").value, (13, 2)))
        self.stays(console, InvalidStretch, "put g main 999999 999999")
        self.assertEqual(self.stays(console, SameName, "put double main 0 1").name, "double")
        self.assertTrue(same(self.stays(console, InvalidPlaces, "put g main 13 1").value, ()))
        console = loaded(ends())
        self.assertEqual(self.stays(console, InvalidLines, "put g main 2 1").value, (("if", "a"),))
        self.assertEqual(self.stays(console, InvalidLines, "put g main 6 2").value, (STOP, ("mark", "a")))

    def test_take_with_errors(self):
        console = with_steps()
        self.assertEqual(self.stays(console, UnknownName, "take gone").value, "gone")
        self.assertEqual(self.stays(console, NotStraight, "take main").name, "main")

    def test_undo_and_redo(self):
        console = with_steps()
        for row, moment in (("redo", 2), ("undo 2", 0), ("redo 1", 1), ("undo 0", 1), ("redo 0", 1), ("undo", 0),
                            ("redo 2", 2)):
            self.assertTrue(same(console.say(row), "ok"))
            self.assertEqual((console.bench.moment, console.bench.undone), (moment, 2 - moment))
        self.assertTrue(same(self.stays(console, OutOfRange, "undo 3").value, 3))
        self.assertTrue(same(self.stays(console, OutOfRange, "redo").value, 1))
        self.assertTrue(same(self.stays(console, OutOfRange, "undo 999999").value, 999999))
        self.assertTrue(same(self.stays(Console(), OutOfRange, "undo").value, 1))

    def test_size_and_text(self):
        for program in (again(), rings(), twice()):
            console = loaded(program)
            self.assertTrue(same(console.say("size"), str(program.size)))
            self.assertTrue(same(console.say("text"), program.text))

    def test_run(self):
        console = loaded(twice())
        for row, answer in (("run 8", "10 : back"), ("run 7", "10 : on"), ("run 6", ": on"), ("run 0", ": on"),
                            ("run 999999", "10 : back"), ("run 8 1 2 3", "10 : back")):
            self.assertTrue(same(console.say(row), answer))
        console = loaded(Program.of(("in", 0), ("out", 0), ("in", 0), ("out", 0), STOP))
        self.assertEqual(console.say(f"run 9 {HIGH} {LOW}"), f"{HIGH} {LOW} : stop")
        self.assertEqual(console.say("run 9 -1 0 5"), "-1 0 : stop")
        self.assertEqual(console.say("run 3 0"), "0 : on")
        self.assertEqual(Console().say("run 1"), ": back")
        self.assertEqual(loaded(Program.of(("addr", 0, "main"), ("out", 0), STOP)).say("run 9"), ": kind")

    def test_shown_live_and_classes(self):
        self.assertEqual([loaded(rings()).say(row) for row in ("shown", "live", "classes")], ["-", "a b main", "a b"])
        self.assertEqual([loaded(seen()).say(row) for row in ("shown", "live", "classes")],
                         ["a b", "a b main", "a b"])
        self.assertEqual([Console().say(row) for row in ("shown", "live", "classes")], ["-", "main", "-"])
        names = ("a", "b", "c", "d", "e", "f")
        program = Program({"main": [*(("call", name) for name in names), STOP],
                           **{name: [("out", at % 3 % 2), BACK] for at, name in enumerate(names)}})
        self.assertEqual(loaded(program).say("classes"), "a c d f / b e")

    def test_reason(self):
        console = loaded(ends())
        for row, answer in (("reason main 0 2", "free"), ("reason main 2 1", "jump"), ("reason main 3 4", "free"),
                            ("reason main 6 2", "jump"), ("reason main 11 1", "free")):
            self.assertTrue(same(console.say(row), answer))
        console = loaded(Program.of(("push", 0), ("in", 0), STOP))
        self.assertEqual([console.say(f"reason main {first} {many}") for first, many in ((0, 1), (0, 3), (1, 2))],
                         ["stack", "free", "frame"])
        self.assertTrue(same(self.stays(console, InvalidStretch, "reason main 3 1").value, (3, 1)))
        self.assertTrue(same(self.stays(console, InvalidStretch, "reason main 0 4").value, (0, 4)))
        self.assertEqual(self.stays(console, UnknownName, "reason gone 9 9").value, "gone")

    def test_best(self):
        self.assertTrue(same(loaded(again()).say("best"), f"1 : {TEXT_ROW}"))
        self.assertTrue(same(loaded(twice()).say("best"), "-"))
        program = Program.of(*[("in", 0), ("out", 0)] * 12, STOP)
        self.assertRegex(loaded(program).say("best"), r"^\d+ : (in 0 ; out 0 ; )*in 0 ; out 0$")

    def test_table(self):
        self.assertTrue(same(loaded(twice()).say("table"), "double      2    2\nmain        6    7"))
        program = Program({"main": [("call", "abcdefgh"), ("call", "g"), STOP], "g": [("num", 0, 100), BACK],
                           "abcdefgh": [("in", 0), BACK]})
        self.assertEqual(loaded(program).say("table"), "abcdefgh    2    2\ng           2    4\nmain        3    5")
        self.assertEqual(Console().say("table"), "main        1    1")
        program = Program.of(*[("num", 0, 100), ("out", 0)] * 29, STOP)
        self.assertEqual(loaded(program).say("table"), "main       59  117")

    def test_columns_that_are_full(self):
        functions = {"main": [("call", "f")] * 59 + [STOP], "f": [("in", 0)] * 59 + [BACK]}
        console = loaded(Program(functions))
        console.say("take f")
        self.assertEqual(console.say("table"), f"main    {59 * 59 + 1:>5}{59 * 59 + 1:>5}")

    def test_try(self):
        console = with_steps()
        before, bench = told(console), console.bench
        for row in ROWS:
            if not row.startswith(("try", "load")):
                expected = with_steps().say(row)
                self.assertTrue(same(console.say(f"try {row}"), expected))
                self.assertEqual(told(console), before)
                self.assertIs(console.bench, bench)

    def test_try_with_errors(self):
        console = with_steps()
        self.stays(console, OutOfRange, "try undo 9")
        self.stays(console, SameName, "try put main main 0 1")
        self.stays(console, UnknownName, "try edit gone stop")
        self.stays(console, InvalidPlaces, "try put g main 13 1")

    def test_steps_of_a_console(self):
        console = loaded(rings())
        self.assertEqual(console.say("try make folded"), "ok")
        self.assertEqual(console.say("size"), "17")
        console.say("make folded")
        self.assertEqual((console.say("size"), console.bench.program), ("11", folded(rings())))
        console.bench.undo()
        self.assertEqual(console.say("size"), "17")

    def test_consoles_are_equal_to_themselves_alone(self):
        console = Console()
        self.assertEqual(console, console)
        self.assertNotEqual(console, Console())


class InvalidSayTest(unittest.TestCase):
    def wrong(self, row):
        console = with_steps()
        before = told(console)
        for value in (row, "try " + row) if isinstance(row, str) else (row,):
            with self.assertRaises(InvalidSay, msg=value) as caught:
                console.say(value)
            self.assertTrue(same(caught.exception.row, value))
            self.assertEqual(told(console), before)

    def test_any_value(self):
        for value in ANY_VALUES:
            self.wrong(value)

    def test_rows_with_a_part_more_or_less_or_otherwise(self):
        for row in ROWS:
            if row.startswith("load"):
                continue
            for changed in (f" {row}", f"{row} ", row.replace(" ", "  ", 1) if " " in row else f"{row}  ", f"{row}\n",
                            f"\n{row}", f"{row} x", f"{row} -", row.upper(), f"{row};", row.replace(" ", "\n", 1) if
                            " " in row else f"{row}\nx", row[1:], row.capitalize(), f"{row} -0", f"{row} 007",
                            f"{row} +5", f"{row} {2 ** 31}"):
                self.wrong(changed)
            if not row.startswith(("run", "try run", "undo", "redo")):
                self.wrong(f"{row} 5")

    def test_rows_cut_short(self):
        for row in ("edit main", "edit", "edit main ", "make", "put g main 0", "put g main", "put g", "put", "take",
                    "run", "reason main 0", "reason main", "reason", "try", "load", "", " ", "try ", "make ", "take "):
            self.wrong(row)

    def test_words_that_are_none(self):
        for row in ("folded", "make swept", "make Folded", "make main", "make 5", "steps", "log", "save", "Size",
                    "undone", "best 1", "make folded folded", "trysize", "try-size", "loads\nfunction main\nstop"):
            self.wrong(row)

    def test_names_that_are_no_words(self):
        for name in ("Main", "nineteens", "m1", "5", "", "a-b", "a;b"):
            for row in ("edit {} stop", "put {} main 0 1", "put g {} 0 1", "take {}", "reason {} 0 1"):
                self.wrong(row.format(name))

    def test_lines_that_are_none(self):
        for lines in ("stops", "in", "in 6", "in 00", "in -0", "in 0 0", "num 0 2147483648", "num 0 -2147483649",
                      "num 0 +1", "num 0 01", "read 0 60", "push links", "call F", "stop ;", "; stop", "stop ; ; stop",
                      "stop;stop", "stop ;stop", "stop; stop", "stop  ; stop", "in 0 ; stops", "mark", "jump nineteens",
                      "num 0 None", "function main", "add 0 0"):
            self.wrong(f"edit main {lines}")

    def test_numbers(self):
        for number in ("1000000", "-1", "00", "01", "+1", "-0", "1.0", "x", "", "True", "None", "1e3", "0x1", "1_0",
                       "9" * 50):
            for row in ("undo {}", "redo {}", "put g main {} 1", "put g main 0 {}", "reason main {} 1",
                        "reason main 0 {}", "run {}", "run {} 5"):
                self.wrong(row.format(number))
        for number in (str(2 ** 31), str(-(2 ** 31) - 1), "00", "+1", "-0", "-01", "x", "", "9" * 50, "-"):
            self.wrong(f"run 5 {number}")
            self.wrong(f"run 5 1 {number} 2")

    def test_the_greatest_numbers(self):
        console = with_steps()
        self.assertEqual(console.say(f"run 999999 {HIGH} {LOW} 0 -1"), with_steps().say(f"run 99 {HIGH} {LOW} 0 -1"))
        for row in ("undo 999999", "redo 999999", "put g main 999999 1", "reason main 0 999999"):
            self.assertRaises(LookupError if row[1:4] in ("ndo", "edo") else InvalidStretch, console.say, row)

    def test_try_with_load_with_try_and_with_rows_that_are_none(self):
        for row in ("try load\nfunction main\nstop", "try try size", "try try try size", "try load", "try tries",
                    "try\nsize", "try  size", "try size size", "try " * 3000 + "size", "try try load\nfunction main\n"
                    "stop"):
            self.wrong(row)

    def test_newlines(self):
        for row in ("size\n", "\nsize", "edit main stop\n", "edit main\nstop", "edit main stop\n; stop", "load \n",
                    " load\nfunction main\nstop", "Load\nfunction main\nstop", "load", "text\ntext",
                    "run 5\n5"):
            self.wrong(row)

    def test_ahead_of_other_errors(self):
        for row in ("edit gone stops", "put main gone 99 x", "take Gone", "undo 9999999", "make x"):
            self.wrong(row)
