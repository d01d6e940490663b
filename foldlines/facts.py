"""What holds in all runs of a swept program: what is written, known and wanted, and where the link is."""

from foldlines.effects import is_pure, registers_of, told_bits, written_bits
from foldlines.errors import UnknownPlace
from foldlines.flow import ways
from foldlines.knowing import function_writes, greatest_table, is_right_table
from foldlines.leasts import least_sets
from foldlines.lines import CALL_WORDS
from foldlines.sweeping import require_swept
from foldlines.values import is_list, is_place
from foldlines.wants import wants, wants_without


def writes(program):
    """A dict from the names to the registers that the functions, and what they call, write."""
    require_swept(program)
    written = function_writes(program)
    return {name: registers_of(written[name]) for name in program.names}


def known(program):
    """The greatest right known table: which registers have which numbers ahead of each line."""
    require_swept(program)
    return greatest_table(program)


def is_known(program, value):
    """Whether any value is a right known table."""
    require_swept(program)
    return is_right_table(program, value)


def wanted(program, place):
    """The registers, and the flag, that are wanted ahead of the line at a place."""
    require_swept(program)
    if not is_place(program, place):
        raise UnknownPlace(place)
    return told_bits(wants(program)[0][place])


def idle(program):
    """The places of all pure lines that write what is not wanted behind them."""
    require_swept(program)
    behind = wants(program)[1]
    pure = [(place, line) for place, line in program.places() if is_pure(line)]
    return tuple([place for place, line in pure if not behind[place] & written_bits(line)])


def is_idle(program, value):
    """Whether any value is a list of different places of pure lines that may go together."""
    require_swept(program)
    if not is_list(value) or not all([_is_pure_place(program, place) for place in value]):
        return False
    gone = {place: True for place in value}
    if len(gone) < len(value):
        return False
    behind = wants_without(program, gone)[1]
    return not any([behind[place] & written_bits(program[place[0]][place[1]]) for place in value])


def _is_pure_place(program, value):
    """Whether a value is the place of a pure line."""
    return is_place(program, value) and is_pure(program[value[0]][value[1]])


def link_wanted(program, name):
    """The indexes of the lines of a function ahead of which the link is wanted."""
    require_swept(program)
    lines = program[name]

    def ahead_of(at, behind):
        return _link_ahead(lines[at], behind)

    ahead = least_sets(ways(program, name), ahead_of)[0]
    return tuple([at for at in ahead if ahead[at]])


def _link_ahead(line, behind):
    """1 if the link is wanted ahead of a line, otherwise 0, told the same of what is behind it."""
    if line[0] in ("back", "tail") or line == ("push", "link"):
        return 1
    if line[0] in CALL_WORDS or line == ("pop", "link"):
        return 0
    return behind
