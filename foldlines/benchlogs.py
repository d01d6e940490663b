"""Benches that tell their steps as a log, which can be replayed."""

from foldlines.benches import Bench
from foldlines.errors import InvalidLine, InvalidLines, InvalidLog, InvalidName, InvalidPlaces, InvalidWord
from foldlines.errors import NotStraight, SameName, TooMany, UnknownName, Untidy
from foldlines.texts import lines_of_row, lines_text


class LoggedBench(Bench):
    """A bench that tells its steps as a log."""

    def __init__(self, program):
        super().__init__(program)

    @property
    def log(self):
        """A text with a row for each step in effect."""
        rows = [_log_row(at + 1, step, lines, made.size) for at, (step, lines, made) in enumerate(self._rows)]
        return "\n".join(rows)

    @staticmethod
    def replayed(program, log):
        """The bench of a program on which the steps of a log were done."""
        if not isinstance(log, str):
            raise InvalidLog(0)
        bench = LoggedBench(program)
        rows = log.split("\n") if log else []
        for at, row in enumerate(rows):
            if not _is_followed(bench, at + 1, row):
                raise InvalidLog(at)
        return bench


def _log_row(number, step, lines, size):
    """The row of a log for a step with the lines that were given for it, and the size behind it."""
    given = f"{lines_text(lines)} = " if lines else ""
    return f"{number} {step[0]} {step[1]} {given}{size}"


def _is_followed(bench, number, row):
    """Whether a row of a log is that of a step that a bench can do, and now has done."""
    parts = row.split(" ")
    if len(parts) < 4:
        return False
    step = (parts[1], parts[2])
    lines = _given_lines(parts)
    # The row is right if it is the one that a log has for this step: so nothing else is asked of its form.
    return lines is not None and _can_do(bench, step, lines) and _log_row(number, step, lines, bench.size) == row


def _given_lines(parts):
    """The lines that the parts of a row tell, none if its step is given none; None if they are no lines."""
    if parts[1] in ("edit", "put"):
        return lines_of_row(" ".join(parts[3:]).partition(" = ")[0])
    return () if parts[1] in ("make", "take") else None


def _can_do(bench, step, lines):
    """Whether a bench could do a step, which now is done."""
    try:
        _do(bench, step, lines)
    except (InvalidLine, InvalidLines, InvalidName, InvalidPlaces, InvalidWord, NotStraight, SameName, TooMany,
            UnknownName, Untidy):
        return False
    return True


def _do(bench, step, lines):
    """Does a step of a bench."""
    word, name = step
    if word == "edit":
        bench.edit(name, lines)
    elif word == "put":
        bench.put(name, lines)
    elif word == "make":
        bench.make(name)
    else:
        bench.take(name)
