"""Ends of functions that are the same: one of them goes on at the other."""

from foldlines.flow import rows
from foldlines.lines import END_WORDS, lines_size, marks_of
from foldlines.sweeping import require_swept
from foldlines.words import fresh_word

# What the run of an end does not go beyond.
BORDER_WORDS = ("mark", "jump", "if", "unless", "back", "tail", "stop")
JUMP_SIZE = 2


def sharing(program, name):
    """Tuples (end, earlier, k): the ends that are exchanged, with whom they share how many lines."""
    require_swept(program)
    return _sharing_of(program[name], rows(program, name))


def _sharing_of(lines, rows_at):
    """What sharing tells of these lines with these rows."""
    starts = _run_starts(lines)
    found = []
    ends = list(starts)
    for number, end in enumerate(ends):
        best = (0, 0)
        for earlier in ends[:number]:
            many = _shared_many(lines, rows_at, (end, earlier), min(end - starts[end], earlier - starts[earlier]) + 1)
            if many > best[1]:
                best = (earlier, many)
        if lines_size(lines[end + 1 - best[1]:end + 1]) > JUMP_SIZE:
            found.append((end, *best))
    return tuple(found)


def _run_starts(lines):
    """A dict from the indexes of the ends to those of the first lines of their runs."""
    starts = {}
    start = 0
    for at, line in enumerate(lines):
        if line[0] in END_WORDS:
            starts[at] = start
        if line[0] in BORDER_WORDS:
            start = at + 1
    return starts


def _shared_many(lines, rows_at, ends, most):
    """The greatest number of last lines, up to most, that two ends share."""
    end, other = ends
    shared_many = 0
    for back in range(most):
        if lines[end - back] != lines[other - back]:
            return shared_many
        if rows_at[end - back] == rows_at[other - back]:
            shared_many = back + 1
    return shared_many


def shared(program):
    """The program in which ends of all functions go on at earlier ones with which they share lines."""
    require_swept(program)
    return program.of_any_size({name: _shared_lines(program[name], rows(program, name)) for name in program.names})


def _shared_lines(lines, rows_at):
    """Lines with these rows, in which ends go on at earlier ones."""
    marks = {}
    jumps = {}
    taken = list(marks_of(lines))
    for end, earlier, many in _sharing_of(lines, rows_at):
        goal = earlier + 1 - many
        if goal not in marks:
            marks[goal] = fresh_word(taken)
            taken.append(marks[goal])
        jumps[end + 1 - many] = (marks[goal], many)
    made = []
    at = 0
    while at < len(lines):
        if at in marks:
            made.append(("mark", marks[at]))
        if at in jumps:
            made.append(("jump", jumps[at][0]))
            at += jumps[at][1]
        else:
            made.append(lines[at])
            at += 1
    return made
