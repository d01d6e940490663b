"""All passes by their words, and all of them together."""

from foldlines.ends import shared
from foldlines.errors import InvalidRow, InvalidWord
from foldlines.folds import folded
from foldlines.gains import best
from foldlines.outlining import outlined
from foldlines.passes import cheaper, dropped
from foldlines.patterns import best_near, outlined_near
from foldlines.straightening import straightened
from foldlines.sweeping import require_swept
from foldlines.words import fresh_word

PASSES = ("straightened", "dropped", "cheaper", "folded", "shared", "best", "near")


def passed(program, word):
    """The program that the pass of this word makes."""
    require_swept(program)
    if word not in PASSES:
        raise InvalidWord(word)
    action = ACTIONS[word]
    return action(program)


def _straightened(program):
    return straightened(program)


def _dropped(program):
    return dropped(program)


def _cheaper(program):
    return cheaper(program)


def _folded(program):
    return folded(program)


def _shared(program):
    return shared(program)


def _with_best(program):
    """The program in which the best text, if there is one, is a function of its own."""
    told = best(program)
    return program if told is None else outlined(program, fresh_word(program.names), told[0])


def _with_near(program):
    """The program in which the best pattern, if there is one, is a function of its own."""
    told = best_near(program)
    return program if told is None else outlined_near(program, fresh_word(program.names), told[0])


# A table of functions holds only those of its own file.
ACTIONS = {
    "straightened": _straightened, "dropped": _dropped, "cheaper": _cheaper, "folded": _folded, "shared": _shared,
    "best": _with_best, "near": _with_near,
}


def smallest(program):
    """The program behind the first pass that makes it smaller, again and again, and the row of their words."""
    require_swept(program)
    now = program
    row = []
    word, made = _next_smaller(now)
    while word is not None:
        now = made
        row.append(word)
        word, made = _next_smaller(now)
    return (now, tuple(row))


def _next_smaller(program):
    """The first word whose pass makes a program smaller, and what it makes; None if there is none."""
    for word in PASSES:
        made = passed(program, word)
        if made.size < program.size:
            return (word, made)
    return (None, program)


def replayed(program, row):
    """The program behind the passes of a row of words, each of which makes it smaller."""
    require_swept(program)
    now = program
    for at, word in enumerate(row):
        if word not in PASSES:
            raise InvalidRow(at)
        made = passed(now, word)
        if made.size >= now.size:
            raise InvalidRow(at)
        now = made
    return now
