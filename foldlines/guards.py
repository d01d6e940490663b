"""Guards: what must hold of a program behind each step."""

from foldlines.runs import run
from foldlines.values import are_numbers, is_int, is_word

MOST_COUNT = 1000000


def is_guard(value):
    """Whether any value has one of the forms of a guard."""
    if not isinstance(value, tuple) or len(value) == 0:
        return False
    if value[0] == "size":
        return len(value) == 2 and _is_count(value[1])
    if value[0] == "name":
        return len(value) == 2 and is_word(value[1])
    if value[0] != "run" or len(value) != 4 or not isinstance(value[1], tuple):
        return False
    return are_numbers(value[1]) and _is_count(value[2]) and _is_count(value[3])


def _is_count(value):
    """Whether any value is a number of steps, or a size, that a guard may name."""
    return is_int(value) and 0 <= value <= MOST_COUNT


def aim_of(guard, first):
    """The outputs and the end that a guard asks for, told the first program; None if it asks for no run."""
    if guard[0] != "run":
        return None
    _, inputs, most, _ = guard
    return run(first, inputs, most)[:2]


def does_hold(guard, aim, program):
    """Whether a guard with this aim holds of a program."""
    if guard[0] == "size":
        return program.size <= guard[1]
    if guard[0] == "name":
        return guard[1] in program
    _, inputs, _, later = guard
    return aim[1] is not None and run(program, inputs, later)[:2] == aim
