"""What jumps and branches take when a program is laid down."""

from foldlines.limits import REACH
from foldlines.lines import line_size, marks_of, named_label
from foldlines.sweeping import require_swept

SHORT = 1
LONG = 2


def lengths(program):
    """A dict from the places of the jumps and branches to 1 or 2, with as few 2 as there can be."""
    require_swept(program)
    taken = {}
    for name in program.names:
        for at, length in _jump_lengths(program[name]).items():
            taken[(name, at)] = length
    return taken


def _jump_lengths(lines):
    """A dict from the indexes of the jumps and branches of a function to what they take."""
    marks = marks_of(lines)
    taken = {at: SHORT for at, line in enumerate(lines) if named_label(line) is not None}
    far = list(taken)
    # Lines that are too far off with others as short as can be stay so when those become longer.
    while far:
        starts = _starts(lines, taken)
        far = [at for at in taken if taken[at] == SHORT and _gap(starts, at, marks[lines[at][1]]) > REACH]
        for at in far:
            taken[at] = LONG
    return taken


def _starts(lines, taken):
    """What the lines ahead of each index take together."""
    starts = [0]
    for at, line in enumerate(lines):
        starts.append(starts[-1] + (taken[at] if at in taken else line_size(line)))
    return starts


def _gap(starts, at, mark):
    """What the lines between a jump and its mark take, and the jump itself if the mark stands ahead of it."""
    return starts[mark] - starts[at + 1] if mark > at else starts[at + 1] - starts[mark]


def laid_size(program):
    """The size of a program when it is laid down."""
    taken = lengths(program)
    return sum([taken[place] if place in taken else line_size(line) for place, line in program.places()])
