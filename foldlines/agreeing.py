"""Lines that agree, pairs of functions that are come to together, and the rows of entries that lead there."""

from foldlines.lines import marks_of, named_function
from foldlines.values import is_int


def form_of(lines):
    """A tuple that two functions have in common exactly if they have like lines."""
    marks = marks_of(lines)
    return tuple([_line_form(line, marks) for line in lines])


def _line_form(line, marks):
    """A line without names of functions, and with the index of the mark instead of its label."""
    if line[0] == "mark":
        return ("mark",)
    if line[0] in ("jump", "if", "unless"):
        return (line[0], marks[line[1]])
    if line[0] in ("call", "tail"):
        return (line[0],)
    return line[:2] if line[0] == "addr" else line


def forms_of(program):
    """A dict from the names to the forms of the functions."""
    return {name: form_of(program[name]) for name in program.names}


def where_unlike(one, other):
    """None for two like forms, otherwise a tuple of the first index with lines that do not agree, or of None."""
    for at, (line, twin) in enumerate(zip(one, other)):
        if line != twin:
            return (at,)
    return None if len(one) == len(other) else (None,)


def named_pairs(lines, twins):
    """Tuples (index, pair) for the indexes of two functions with like lines at which they name functions."""
    named = [(at, (named_function(line), named_function(twin))) for at, (line, twin) in enumerate(zip(lines, twins))]
    return [(at, pair) for at, pair in named if pair[0] is not None]


def pairs_from(one, other, start):
    """A dict from all pairs that are come to from a first one to (pair, index) from where: None for the first."""
    one_forms = forms_of(one)
    other_forms = forms_of(other)
    came = {start: None}
    todo = [start]
    while todo:
        pair = todo.pop(0)
        if one_forms[pair[0]] == other_forms[pair[1]]:
            for at, named in named_pairs(one[pair[0]], other[pair[1]]):
                if named not in came:
                    came[named] = (pair, at)
                    todo.append(named)
    return came


def row_to(came, pair, index):
    """The row that leads from the first of these pairs to this one, and to this index of it."""
    entries = [(pair[0], pair[1], index)]
    step = came[pair]
    while step is not None:
        pair, index = step
        entries.append((pair[0], pair[1], index))
        step = came[pair]
    return tuple(entries[::-1])


def is_row(one, other, start, value):
    """Whether any value is a row of entries from a first pair on, whatever its last entry tells at its index."""
    if not isinstance(value, tuple) or len(value) == 0:
        return False
    pair = start
    for entry in value[:-1]:
        if not _is_entry(one, other, pair, entry) or not does_name(one, other, entry):
            return False
        pair = named_pair(one, other, entry)
    return _is_entry(one, other, pair, value[-1])


def _is_entry(one, other, pair, value):
    """Whether any value is an entry of this pair, at an index that both functions have, or at None."""
    if not isinstance(value, tuple) or len(value) != 3 or value[:2] != pair:
        return False
    shortest = min(len(one[pair[0]]), len(other[pair[1]]))
    return value[2] is None or is_int(value[2]) and 0 <= value[2] < shortest


def does_name(one, other, entry):
    """Whether the lines of an entry agree and name functions."""
    return does_agree(one, other, entry) and named_pair(one, other, entry)[0] is not None


def does_agree(one, other, entry):
    """Whether an entry has an index at which its lines agree."""
    f, g, at = entry
    return at is not None and form_of(one[f])[at] == form_of(other[g])[at]


def named_pair(one, other, entry):
    """The functions that the lines of an entry with an index name."""
    f, g, at = entry
    return (named_function(one[f][at]), named_function(other[g][at]))


def is_unlike_end(one, other, entry):
    """Whether an entry tells of unlike many lines, or of lines that do not agree."""
    f, g, at = entry
    if at is None:
        return len(one[f]) != len(other[g])
    return not does_agree(one, other, entry)
