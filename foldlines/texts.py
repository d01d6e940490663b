"""Programs as texts: written and read."""

from foldlines.errors import InvalidText
from foldlines.lines import is_line
from foldlines.values import is_word


def text_of(functions):
    """The text of these functions, which stand in ascending order."""
    return "\n".join([_function_text(name, functions[name]) for name in functions])


def _function_text(name, lines):
    """The text of one function."""
    return "\n".join([f"function {name}", *[line_text(line) for line in lines]])


def line_text(line):
    """The text of one line."""
    return " ".join([str(part) for part in line])


def lines_text(lines):
    """The text of lines that stand in one row."""
    return " ; ".join([line_text(line) for line in lines])


def lines_of_row(row):
    """The lines whose text, in one row, this is; None if it is not the text of lines."""
    lines = tuple([line_of(part) for part in row.split(" ; ")])
    return lines if all([is_line(line) for line in lines]) else None


def functions_of(text):
    """The functions that a text has; raises InvalidText for any value that is no such text."""
    if not isinstance(text, str):
        raise InvalidText(0)
    functions = {}
    name = ""
    for at, row in enumerate(text.split("\n")):
        line = line_of(row)
        if _is_head(row, name):
            name = row.split(" ")[1]
            functions[name] = []
        elif name and is_line(line):
            functions[name].append(line)
        else:
            raise InvalidText(at)
    return functions


def _is_head(row, last):
    """Whether a row of a text begins a function with a name greater than the last one."""
    parts = row.split(" ")
    return len(parts) == 2 and parts[0] == "function" and is_word(parts[1]) and parts[1] > last


def line_of(row):
    """The parts of a row of a text, a tuple, which need not be a line."""
    return tuple([part_of(part) for part in row.split(" ")])


def part_of(part):
    """A part as an integer if it is written as the text of one, otherwise as it is."""
    digits = part.removeprefix("-")
    # No number has more than ten digits, and Python refuses to turn very long ones into integers.
    if not 1 <= len(digits) <= 10 or any([digit not in "0123456789" for digit in digits]):
        return part
    if digits[0] == "0" and part != "0":
        return part
    return int(part)
