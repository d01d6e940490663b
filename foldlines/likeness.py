"""Whether two programs are alike, and what all programs that are alike have in common."""

from foldlines.agreeing import does_agree, form_of, is_row, is_unlike_end, named_pair, named_pairs, pairs_from, row_to
from foldlines.agreeing import where_unlike
from foldlines.folds import class_numbers
from foldlines.holders import shown
from foldlines.lines import named_function
from foldlines.sweeping import require_swept
from foldlines.words import word_at

MAINS = ("main", "main")


def alike(one, other):
    """None for two programs that are alike, otherwise a paper that shows that they are not."""
    _require_both_swept(one, other)
    came = pairs_from(one, other, MAINS)
    for pair in came:
        end = where_unlike(form_of(one[pair[0]]), form_of(other[pair[1]]))
        if end is not None:
            return ("lines", row_to(came, pair, end[0]))
    return _address_paper(one, other, came)


def _require_both_swept(one, other):
    """Raises NotSwept if one of two programs is not swept."""
    require_swept(one)
    require_swept(other)


def _address_paper(one, other, came):
    """A paper of two address pairs that may not be both; None if there are no such."""
    seen = _both_shown(one, other)
    lefts = {}
    rights = {}
    for pair in came:
        for at, named in named_pairs(one[pair[0]], other[pair[1]]):
            if one[pair[0]][at][0] != "addr":
                continue
            told = (named, pair, at)
            for before in (lefts.setdefault(named[0], told), rights.setdefault(named[1], told)):
                if _are_apart(before[0], named, seen):
                    return ("address", row_to(came, before[1], before[2]), row_to(came, pair, at))
    return None


def _both_shown(one, other):
    """The functions that are shown in the first of two programs, and those that are in the other one."""
    return (shown(one), shown(other))


def _are_apart(pair, named, seen):
    """Whether two address pairs share one function but not the other, and one of the functions is shown."""
    if (pair[0] == named[0]) == (pair[1] == named[1]):
        return False
    return pair[0] in seen[0] or named[0] in seen[0] or pair[1] in seen[1] or named[1] in seen[1]


def is_parted(one, other, value):
    """Whether any value is a paper that shows that two programs are not alike."""
    _require_both_swept(one, other)
    if not isinstance(value, tuple) or len(value) < 2:
        return False
    if not all([is_row(one, other, MAINS, row) for row in value[1:]]):
        return False
    ends = [row[-1] for row in value[1:]]
    if value[0] == "lines":
        return len(ends) == 1 and is_unlike_end(one, other, ends[0])
    if value[0] != "address" or len(ends) != 2 or not all([_is_address_end(one, other, end) for end in ends]):
        return False
    return _are_apart(named_pair(one, other, ends[0]), named_pair(one, other, ends[1]), _both_shown(one, other))


def _is_address_end(one, other, entry):
    """Whether an entry stands at addr lines that agree."""
    return does_agree(one, other, entry) and one[entry[0]][entry[2]][0] == "addr"


def core(program):
    """The program that all those that are alike to this one have in common."""
    numbers = class_numbers(program)
    seen = shown(program)
    members = {**{name: name for name in seen}, **{number: name for name, number in numbers.items()}}
    names = {numbers["main"]: "main"}
    functions = {}
    todo = [numbers["main"]]
    while todo:
        node = todo.pop(0)
        lines = program[members[node]]
        for line in lines:
            named = _node_of(line, numbers, seen)
            if named is not None and named not in names:
                names[named] = word_at(len(names) - 1)
                todo.append(named)
        functions[names[node]] = _renamed_lines(lines, names, numbers, seen)
    return program.of_any_size(functions)


def _node_of(line, numbers, seen):
    """A shown function that a line takes the address of; otherwise the number of the class that it names, if any."""
    name = named_function(line)
    if name is None:
        return None
    return name if line[0] == "addr" and name in seen else numbers[name]


def _renamed_lines(lines, names, numbers, seen):
    """The lines with the names of what they name, and with labels by the order of the marks."""
    labels = {}
    for line in lines:
        if line[0] == "mark":
            labels[line[1]] = word_at(len(labels))
    renamed = []
    for line in lines:
        if line[0] in ("mark", "jump", "if", "unless"):
            renamed.append((line[0], labels[line[1]]))
        elif named_function(line) is not None:
            renamed.append((*line[:-1], names[_node_of(line, numbers, seen)]))
        else:
            renamed.append(line)
    return renamed
