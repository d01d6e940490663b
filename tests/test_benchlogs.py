import unittest

from foldlines.benches import Bench
from foldlines.benchlogs import LoggedBench
from foldlines.errors import InvalidLog, InvalidWord
from foldlines.programs import Program
from foldlines.smallest import PASSES
from foldlines.sweeping import swept
from samples import ANY_VALUES, again, not_swept, rings, same, twice

STOP = ("stop",)
BACK = ("back",)
TEXT = (("in", 0), ("add", 0, 0, 0), ("mul", 1, 0, 0), ("out", 1))
TEXT_ROW = "in 0 ; add 0 0 0 ; mul 1 0 0 ; out 1"
LOG = "\n".join(("1 make folded 13", f"2 put g {TEXT_ROW} = 12", "3 take g 13", f"4 edit main {TEXT_ROW} ; stop = 5"))


def logged():
    bench = LoggedBench(again())
    bench.make("folded")
    bench.put("g", list(TEXT))
    bench.take("g")
    bench.edit("main", [*TEXT, STOP])
    return bench


class LogTest(unittest.TestCase):
    def test_classes(self):
        self.assertEqual(LoggedBench.__bases__, (Bench,))
        self.assertIs(type(LoggedBench.of_text("function main\nstop")), LoggedBench)

    def test_log(self):
        bench = LoggedBench(program=again())
        self.assertTrue(same(bench.log, ""))
        self.assertTrue(same(logged().log, LOG))

    def test_the_log_has_the_steps_in_effect(self):
        bench = logged()
        for many in range(4, -1, -1):
            self.assertEqual(bench.log, "\n".join(LOG.split("\n")[:many]))
            if many:
                bench.undo()
        bench.redo(3)
        self.assertEqual(bench.log, "\n".join(LOG.split("\n")[:3]))
        bench.make("near")
        self.assertEqual(bench.log, "\n".join([*LOG.split("\n")[:3], "4 make near 13"]))

    def test_trials(self):
        bench = logged()
        self.assertEqual(bench.explore(lambda given: (given.undo(3), given.make("best"), given.log)[2]),
                         "1 make folded 13\n2 make best 12")
        self.assertEqual(bench.log, LOG)
        bench.attempt(lambda given: given.undo(4))
        self.assertEqual(bench.log, "")

    def test_lines_of_all_kinds(self):
        lines = [("num", 0, -5), ("num", 5, 2 ** 31 - 1), ("num", 1, -(2 ** 31)), ("copy", 0, 1), ("sub", 0, 1, 2),
                 ("addr", 0, "main"), ("same", 0, 1), ("less", 0, 1), ("push", "link"), ("push", 3), ("read", 1, 0),
                 ("write", 0, 2), ("pop", 3), ("mark", "a"), ("if", "a"), ("unless", "a"), ("callr", 0),
                 ("call", "main"), ("pop", "link"), BACK, ("jump", "a"), ("tail", "main")]
        bench = LoggedBench(Program.of(STOP))
        bench.edit("main", lines)
        self.assertEqual(bench.log, (
            "1 edit main num 0 -5 ; num 5 2147483647 ; num 1 -2147483648 ; copy 0 1 ; sub 0 1 2 ; addr 0 main ; "
            "same 0 1 ; less 0 1 ; push link ; push 3 ; read 1 0 ; write 0 2 ; pop 3 ; mark a ; if a ; unless a ; "
            f"callr 0 ; call main ; pop link ; back ; jump a ; tail main = {bench.size}"))
        self.check(Program.of(STOP), bench)

    def check(self, program, bench):
        """A replayed log gives a bench that tells the same."""
        other = LoggedBench.replayed(program, bench.log)
        self.assertIs(type(other), LoggedBench)
        self.assertEqual((other.log, other.program, other.steps, other.undone, list(other.sizes())),
                         (bench.log, bench.program, bench.steps, 0, list(bench.sizes())))

    def test_lines_as_they_were_given(self):
        # Lines that are not reached are in the log, and not in the program.
        bench = LoggedBench(twice())
        lines = [("in", 0), STOP, ("call", "double"), STOP]
        bench.edit("main", lines)
        lines.clear()
        self.assertEqual((bench.log, bench.size), ("1 edit main in 0 ; stop ; call double ; stop = 2", 2))
        self.check(twice(), bench)

    def test_the_log_is_not_assigned(self):
        with self.assertRaises(AttributeError):
            logged().log = ""


class ReplayedTest(unittest.TestCase):
    def test_replayed(self):
        bench = LoggedBench.replayed(program=again(), log=LOG)
        self.assertIs(type(bench), LoggedBench)
        self.assertEqual((bench.log, bench.program, bench.steps, bench.undone, bench.depth, list(bench.sizes())),
                         (LOG, logged().program, logged().steps, 0, 0, list(logged().sizes())))
        bench.undo(4)
        self.assertEqual(bench.program, again())

    def test_no_steps(self):
        bench = LoggedBench.replayed(again(), "")
        self.assertEqual((bench.log, bench.moment, bench.program), ("", 0, again()))
        for program in not_swept():
            self.assertEqual(LoggedBench.replayed(program, "").program, swept(program))

    def test_all_passes(self):
        for word in PASSES:
            for program in (again(), twice(), rings()):
                bench = LoggedBench(program)
                bench.make(word)
                self.assertEqual(bench.log, f"1 make {word} {bench.size}")
                self.assertEqual(LoggedBench.replayed(program, bench.log).program, bench.program)

    def wrong(self, log, line, program=None):
        with self.assertRaises(InvalidLog, msg=log) as caught:
            LoggedBench.replayed(program or again(), log)
        self.assertTrue(same(caught.exception.line, line), log)

    def test_any_value(self):
        for value in ANY_VALUES:
            if value != "":
                self.wrong(value, 0)

    def test_rows_left_out_twice_or_exchanged(self):
        rows = LOG.split("\n")
        for at in range(3):
            self.wrong("\n".join(rows[:at] + rows[at + 1:]), at)
        for at in range(4):
            self.wrong("\n".join(rows[:at] + rows[at:at + 1] + rows[at:]), at + 1)
        for at in range(3):
            self.wrong("\n".join([*rows[:at], rows[at + 1], rows[at], *rows[at + 2:]]), at)

    def test_other_numbers_blanks_and_sizes(self):
        rows = LOG.split("\n")
        for at, row in enumerate(rows):
            number, rest = row.split(" ", 1)
            head, size = row.rsplit(" ", 1)
            for changed in (f"{int(number) + 1} {rest}", f"{int(number) - 1} {rest}", f"0{row}", f"+{row}", f" {row}",
                            f"{row} ", rest, f"- {rest}", f"-{row}", row.replace(" ", "  ", 1), f" {rest}",
                            f"{head} {int(size) + 1}", f"{head} {int(size) - 1}", f"{head} 0{size}", f"{head} +{size}",
                            f"{head} -{size}", head, f"{head} ", f"{head}  {size}", f"{row} {size}", f"{head} x",
                            row.upper(), f"{row};", f"{row}\n", "", " ", f"{number}. {rest}", f"{row} = {size}",
                            row.replace(" ", "\n", 1), "# " + row):
                self.wrong("\n".join([*rows[:at], changed, *rows[at + 1:]]), at + 1 if changed == f"{row}\n" else at)

    def test_blank_rows(self):
        self.wrong("\n", 0)
        self.wrong("\n" + LOG, 0)
        self.wrong(LOG + "\n", 4)
        self.wrong(LOG + "\n\n", 4)

    def test_other_forms(self):
        for row in ("1 make", "1 make 13", "1 make folded", "1 make folded = 13", "1 make folded in 0 = 13",
                    "1 makes folded 13", "1 make Folded 13", "1 make swept 13", "1 take g 13", "1 take main 13",
                    "1 undo 1 13", "1 edit main 13", "1 edit main = 13", "1 edit main stop 1", "1 edit main stop = 01",
                    "1 edit main stop = 2", "1 edit main  stop = 1", "1 edit main stop ; = 1", "1 edit main ; stop = 1",
                    "1 edit main stop;stop = 1", "1 edit main stop  ; stop = 1", "1 edit main stop= 1",
                    "1 edit main stop =1", "1 edit main stop = 1 = 1", "1 edit gone stop = 1", "1 edit Main stop = 1",
                    "1 edit main pop 0 ; stop = 2", "1 edit main num 0 05 ; stop = 2",
                    "1 edit main num 0 -0 ; stop = 2", "1 edit main num 0 +5 ; stop = 2",
                    "1 edit main call gone ; stop = 3", "1 edit main in 6 ; stop = 2", "1 edit main stop = 1 2",
                    f"1 put main {TEXT_ROW} = 12", f"1 put G {TEXT_ROW} = 12",
                    f"1 put g {TEXT_ROW} = 13", f"1 put g {TEXT_ROW} 12", "1 put g stop = 13", "1 put g 13",
                    "1 put g in 0 = 13", "1 put g mark a = 13", "1", "edit main stop = 1", "1 edit  stop = 1"):
            self.wrong(row, 0)
            self.wrong(f"1 make near 13\n{row.replace('1', '2', 1)}", 1)
        bench = LoggedBench.replayed(again(), "1 edit main stop = 1")
        self.assertEqual(bench.program, Program.of(STOP))

    def test_steps_with_errors(self):
        rows = " ; ".join(["in 0"] * 61)
        self.wrong(f"1 edit main {rows} ; stop = 62", 0)
        self.wrong("1 edit main pop 0 ; stop = 2", 0)
        self.wrong("1 put g in 0 = 13", 0)
        self.wrong("1 take double 6\n2 take double 6", 1, twice())
        with self.assertRaises(InvalidWord):
            LoggedBench(again()).make("worst")

    def test_a_log_with_a_wrong_row_at_last(self):
        self.wrong(LOG.replace("= 5", "= 6"), 3)
        self.wrong(LOG.replace("put g", "put h"), 2)
