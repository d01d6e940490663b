"""The ways that runs can take through the functions of a program."""

from foldlines.lines import named_function
from foldlines.tidiness import own_indexes, reached_ways, rows_of


def reached(program, name):
    """The indexes of the reached lines of a function, ascending."""
    return tuple(reached_ways(program[name]))


def ways(program, name):
    """A dict from each reached index of a function to those to which its line leads."""
    return reached_ways(program[name])


def rows(program, name):
    """A dict from each reached index of a function to what it has on the stack there."""
    lines = program[name]
    return rows_of(lines, reached_ways(lines))


def own(program, name):
    """The reached indexes of a function at which the link is its own, ascending."""
    lines = program[name]
    return own_indexes(lines, reached_ways(lines))


def live(program):
    """The names of main and of all functions that reached lines of live functions name, ascending."""
    found = {"main": True}
    todo = ["main"]
    while todo:
        lines = program[todo.pop()]
        for name in _named_functions(lines):
            if name not in found:
                found[name] = True
                todo.append(name)
    return tuple(sorted(found))


def _named_functions(lines):
    """The names of the functions that the reached ones of these lines name."""
    names = [named_function(lines[at]) for at in reached_ways(lines)]
    return [name for name in names if name is not None]
