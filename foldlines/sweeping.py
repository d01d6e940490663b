"""Programs without what no run comes to."""

from foldlines.errors import NotSwept
from foldlines.flow import live, reached
from foldlines.lines import named_label


def swept(program):
    """The program without dead functions, without lines that are not reached and marks that nothing goes to."""
    return program.of_any_size(_swept_functions(program))


def is_swept(program):
    """Whether a program has nothing that swept takes away."""
    return _swept_functions(program) == program.functions


def require_swept(program):
    """Raises NotSwept for a program that is not swept."""
    if not is_swept(program):
        raise NotSwept()


def _swept_functions(program):
    """A dict from the live names to the lines that stay."""
    return {name: _swept_lines(program, name) for name in live(program)}


def _swept_lines(program, name):
    """The lines of a function that stay."""
    lines = [program[name][at] for at in reached(program, name)]
    labels = [named_label(line) for line in lines]
    return tuple([line for line in lines if line[0] != "mark" or line[1] in labels])
