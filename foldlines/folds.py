"""Like functions become one."""

from foldlines.agreeing import does_agree, form_of, forms_of, is_row, is_unlike_end, named_pair, named_pairs
from foldlines.agreeing import pairs_from, row_to, where_unlike
from foldlines.errors import UnknownName
from foldlines.holders import shown
from foldlines.lines import lines_size, named_function
from foldlines.sweeping import require_swept, swept


def classes(program):
    """The closed partition with the greatest parts."""
    return _parts_of(class_numbers(program))


def class_numbers(program):
    """A dict from the names to the numbers of their classes, which are counted by their first names."""
    require_swept(program)
    seen = shown(program)
    keys = forms_of(program)
    before = {}
    numbers = _numbered(keys)
    while numbers != before:
        before = numbers
        numbers = _numbered({name: (before[name], _named_parts(program[name], before, seen)) for name in before})
    return numbers


def _numbered(keys):
    """A dict from the names to numbers that two names have in common exactly if they have one key."""
    first = {}
    for key in keys.values():
        if key not in first:
            first[key] = len(first)
    return {name: first[key] for name, key in keys.items()}


def _named_parts(lines, numbers, seen):
    """What the lines tell of the functions that they name, if those of one number are not told apart."""
    return tuple([_named_part(line, numbers, seen) for line in lines if named_function(line) is not None])


def _named_part(line, numbers, seen):
    """The name that an addr line compares; otherwise the number of the function that a line names."""
    name = named_function(line)
    return name if line[0] == "addr" and name in seen else numbers[name]


def _parts_of(numbers):
    """A tuple of the tuples of names with one number."""
    parts = {}
    for name, number in numbers.items():
        parts.setdefault(number, []).append(name)
    return tuple([tuple(part) for part in parts.values()])


def are_closed(program, value):
    """Whether any value is a closed partition of the functions of a program."""
    require_swept(program)
    if not _is_partition(program, value):
        return False
    numbers = {name: number for number, part in enumerate(value) for name in part}
    seen = shown(program)
    firsts = [(part[0], name) for part in value for name in part[1:]]
    return all([_may_be_one(program, first, name, numbers, seen) for first, name in firsts])


def _is_partition(program, value):
    """Whether any value is a tuple of tuples of names, with each name of the program just once."""
    if not isinstance(value, tuple) or not all([isinstance(part, tuple) and part for part in value]):
        return False
    told = [name for part in value for name in part]
    return all([name in program for name in told]) and sorted(told) == list(program.names)


def _may_be_one(program, f, g, numbers, seen):
    """Whether two functions have like lines and name functions that have one number."""
    if form_of(program[f]) != form_of(program[g]):
        return False
    return _named_parts(program[f], numbers, seen) == _named_parts(program[g], numbers, seen)


def unlike(program, f, g):
    """None for two functions of one class, otherwise a row that leads to where they differ."""
    _require_names(program, f, g)
    seen = shown(program)
    came = pairs_from(program, program, (f, g))
    for pair in came:
        end = _unlike_end(program, pair, seen)
        if end is not None:
            return row_to(came, pair, end[0])
    return None


def _unlike_end(program, pair, seen):
    """A tuple of the index at which two functions by themselves differ, or of None; None if they do not."""
    lines, twins = program[pair[0]], program[pair[1]]
    end = where_unlike(form_of(lines), form_of(twins))
    if end is not None:
        return end
    for at, named in named_pairs(lines, twins):
        if lines[at][0] == "addr" and _are_told_apart(named, seen):
            return (at,)
    return None


def _are_told_apart(pair, seen):
    """Whether two functions are different ones, one of which is shown."""
    return pair[0] != pair[1] and (pair[0] in seen or pair[1] in seen)


def is_unlike(program, f, g, value):
    """Whether any value is a row that leads from two functions to where they differ."""
    _require_names(program, f, g)
    if not is_row(program, program, (f, g), value):
        return False
    end = value[-1]
    if is_unlike_end(program, program, end):
        return True
    if not does_agree(program, program, end) or program[end[0]][end[2]][0] != "addr":
        return False
    return _are_told_apart(named_pair(program, program, end), shown(program))


def _require_names(program, f, g):
    """Raises what is due for a program that is not swept and for values that are no names of its functions."""
    require_swept(program)
    for name in (f, g):
        if name not in program:
            raise UnknownName(name)


def folded(program):
    """The program in which each class has as few functions as its shown members allow."""
    parts = classes(program)
    seen = shown(program)
    heads = {}
    addresses = {name: name for name in seen}
    for part in parts:
        shown_part = [name for name in part if name in seen]
        head = _head_of(part, shown_part)
        for name in part:
            heads[name] = head
        if shown_part and head not in seen:
            addresses[shown_part[0]] = head
    functions = {name: _folded_lines(program[name], name, heads, addresses) for name in program.names}
    return swept(program.of_any_size(functions))


def _head_of(part, shown_part):
    """The representative of a class."""
    if "main" in part:
        return "main"
    return shown_part[0] if shown_part else part[0]


def _folded_lines(lines, name, heads, addresses):
    """What the lines of a function become, told the representatives and the addresses that stay or change."""
    keeps_address = name in addresses and addresses[name] == name
    if keeps_address and name != heads[name] and lines_size(lines) > 2:
        return [("tail", heads[name])]
    return [_folded_line(line, heads, addresses) for line in lines]


def _folded_line(line, heads, addresses):
    """What a line becomes."""
    if line[0] == "addr":
        return ("addr", line[1], addresses.get(line[2], heads[line[2]]))
    return (line[0], heads[line[1]]) if line[0] in ("call", "tail") else line
