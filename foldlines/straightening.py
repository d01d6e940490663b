"""Jumps that go straight to where they end, or go."""

from foldlines.lines import marks_of, named_label
from foldlines.sweeping import require_swept, swept

OTHER_WORDS = {"if": "unless", "unless": "if"}


def straightened(program):
    """The program whose jumps and branches go straight to where they end, without those that are not needed."""
    require_swept(program)
    before = program
    now = _straightened_once(program)
    while now.functions != before.functions:
        before = now
        now = _straightened_once(now)
    return now


def _straightened_once(program):
    """The program behind the rules of all functions, swept."""
    return swept(program.of_any_size({name: _straight_lines(program[name]) for name in program.names}))


def _straight_lines(lines):
    """Lines at which no rule fits any more."""
    before = lines
    now = _behind_one_rule(lines)
    while now is not None:
        before = now
        now = _behind_one_rule(now)
    return before


def _behind_one_rule(lines):
    """The lines behind the first rule that fits at the least index at which one does; None if none does."""
    marks = marks_of(lines)
    for at, line in enumerate(lines):
        if named_label(line) is None:
            continue
        made = _relabelled(lines, at, marks)
        if made is None:
            made = _without_needless(lines, at, marks)
        if made is None:
            made = _turned(lines, at, marks)
        if made is not None:
            return made
    return None


def _relabelled(lines, at, marks):
    """The lines in which a jump to jumps goes where they end; None if they do not end or there are none."""
    word, label = lines[at]
    met = {}
    end = label
    while lines[_first_behind(lines, marks[end])][0] == "jump":
        if end in met:
            return None
        met[end] = True
        end = lines[_first_behind(lines, marks[end])][1]
    return None if end == label else _exchanged(lines, at, 1, [(word, end)])


def _without_needless(lines, at, marks):
    """The lines without a jump to what is next; None if it goes elsewhere."""
    return _exchanged(lines, at, 1, []) if _is_next_mark(lines, at, marks[lines[at][1]]) else None


def _turned(lines, at, marks):
    """The lines in which a branch over a jump alone is turned around; None if it is none."""
    word, label = lines[at]
    if word == "jump" or lines[at + 1][0] != "jump" or not _is_next_mark(lines, at + 1, marks[label]):
        return None
    return _exchanged(lines, at, 2, [(OTHER_WORDS[word], lines[at + 1][1])])


def _first_behind(lines, at):
    """The index of the first line that is no mark, behind the mark at this index."""
    while lines[at][0] == "mark":
        at += 1
    return at


def _is_next_mark(lines, at, mark):
    """Whether the mark at the index mark is one of those directly behind the line at the index at."""
    return mark > at and _first_behind(lines, mark) == _first_behind(lines, at + 1)


def _exchanged(lines, at, many, instead):
    """The lines with others instead of so many from this index on."""
    return (*lines[:at], *instead, *lines[at + many:])
