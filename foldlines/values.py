"""Questions about any value: whether it is of one of the kinds that the rest of the package takes."""

from foldlines.limits import GREATEST_NUMBER, LEAST_NUMBER, MAX_LETTERS


def is_int(value):
    """Whether a value is an integer; True and False are none."""
    return isinstance(value, int) and not isinstance(value, bool)


def is_number(value):
    """Whether a value is a number that a register can have."""
    return is_int(value) and LEAST_NUMBER <= value <= GREATEST_NUMBER


def is_word(value):
    """Whether a value is a word of a few letters, as names and labels are."""
    if not isinstance(value, str) or not 1 <= len(value) <= MAX_LETTERS:
        return False
    return all(["a" <= letter <= "z" for letter in value])


def is_list(value):
    """Whether a value can be taken where a list is described."""
    return isinstance(value, (list, tuple))


def is_filled_list(value):
    """Whether a value can be taken where a list of one or more values is described."""
    return is_list(value) and len(value) > 0


def are_numbers(value):
    """Whether a value is a list of numbers."""
    return is_list(value) and all([is_number(part) for part in value])


def is_place(program, value):
    """Whether a value is the place of a line of the program."""
    if not isinstance(value, tuple) or len(value) != 2:
        return False
    name, index = value
    return name in program and is_int(index) and 0 <= index < len(program[name])


def wrapped(number):
    """The number that differs from an integer by a multiple of 2 ** 32."""
    return (number - LEAST_NUMBER) % 2 ** 32 + LEAST_NUMBER
