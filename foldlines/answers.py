"""What a console answers."""

from foldlines.flow import live
from foldlines.folds import classes
from foldlines.gains import best
from foldlines.holders import shown
from foldlines.runs import run
from foldlines.stretches import reason
from foldlines.texts import lines_text

DONE = "ok"
NOTHING = "-"


def answer_of(bench, saying):
    """The answer to what a row says, neither load nor try, at a bench."""
    word, parts = saying
    action = ANSWERS[word]
    return action(bench, *parts)


def _edit(bench, name, lines):
    bench.edit(name, lines)
    return DONE


def _make(bench, word):
    bench.make(word)
    return DONE


def _put(bench, name, source, first, many):
    # Only this asks whether such lines stand there.
    reason(bench.program, source, first, many)
    bench.put(name, bench.program[source][first:first + many])
    return DONE


def _take(bench, name):
    bench.take(name)
    return DONE


def _undo(bench, count=1):
    bench.undo(count)
    return DONE


def _redo(bench, count=1):
    bench.redo(count)
    return DONE


def _size(bench):
    return str(bench.size)


def _text(bench):
    return bench.program.text


def _run(bench, most, inputs):
    outputs, end, _ = run(bench.program, inputs, most)
    return _row([*outputs, ":", "on" if end is None else end])


def _shown(bench):
    return _row(shown(bench.program))


def _live(bench):
    return _row(live(bench.program))


def _row(parts):
    """These parts in one row."""
    return " ".join([str(part) for part in parts]) or NOTHING


def _classes(bench):
    return " / ".join([_row(part) for part in classes(bench.program) if len(part) > 1]) or NOTHING


def _reason(bench, name, first, many):
    word = reason(bench.program, name, first, many)
    return "free" if word is None else word


def _best(bench):
    told = best(bench.program)
    return NOTHING if told is None else f"{told[1]} : {lines_text(told[0])}"


def _table(bench):
    program = bench.program
    return "\n".join([f"{name:<8}{len(program[name]):>5}{program.size_of(name):>5}" for name in program.names])


ANSWERS = {
    "edit": _edit, "make": _make, "put": _put, "take": _take, "undo": _undo, "redo": _redo,
    "size": _size, "text": _text, "run": _run, "shown": _shown, "live": _live, "classes": _classes,
    "reason": _reason, "best": _best, "table": _table,
}
