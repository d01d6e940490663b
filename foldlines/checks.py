"""What the constructor of a program asks of its functions."""

from foldlines.errors import InvalidFunctions, InvalidLine, TooMany, Untidy
from foldlines.limits import MAX_ALL, MAX_FUNCTIONS, MAX_LINES
from foldlines.lines import STACK_WORDS, is_line, marks_of, named_function, named_label
from foldlines.tidiness import is_tidy
from foldlines.values import is_filled_list, is_word


def check_functions(functions, bare):
    """Raises the first error that is due for any value that should be the functions of a program."""
    if not _are_functions(functions):
        raise InvalidFunctions(functions)
    for name in sorted(functions):
        wrong = _first_wrong(functions[name], functions, bare)
        if wrong is not None:
            raise InvalidLine(name, wrong)
    _check_lengths(functions)
    for name in sorted(functions):
        if not is_tidy(functions[name], bare):
            raise Untidy(name)


def _are_functions(value):
    """Whether a value is a dict of words, main among them, to lists of one or more values."""
    if not isinstance(value, dict) or not 1 <= len(value) <= MAX_FUNCTIONS or "main" not in value:
        return False
    return all([is_word(name) and is_filled_list(lines) for name, lines in value.items()])


def _first_wrong(lines, functions, bare):
    """The index of the first of these values that is no line which may stand there, None if there is none."""
    labels = marks_of([line for line in lines if is_line(line)])
    marked = {}
    for at, line in enumerate(lines):
        if not is_line(line) or bare and line[0] in STACK_WORDS:
            return at
        if line[0] == "mark":
            if line[1] in marked:
                return at
            marked[line[1]] = True
        if not _names_are_there(line, labels, functions):
            return at
    return None


def _names_are_there(line, labels, functions):
    """Whether the label and the function that a line names are there, as far as it names any."""
    label = named_label(line)
    name = named_function(line)
    return (label is None or label in labels) and (name is None or name in functions)


def _check_lengths(functions):
    """Raises TooMany for a function that is too long, then for functions that are too long together."""
    lengths = [len(lines) for lines in list(functions.values())]
    if max(lengths) > MAX_LINES:
        raise TooMany(MAX_LINES)
    if sum(lengths) > MAX_ALL:
        raise TooMany(MAX_ALL)
