"""Known tables: which registers have which numbers ahead of the lines."""

from foldlines.effects import registers_of, written_registers
from foldlines.flow import ways
from foldlines.holders import all_goals
from foldlines.leasts import least_sets
from foldlines.limits import REGISTERS
from foldlines.values import is_int, is_number, is_place


def function_writes(program):
    """A dict from the names to the bits of the registers that the functions and their goals write."""
    goals_at = all_goals(program)
    followers = {name: [] for name in program.names}
    own = {name: 0 for name in program.names}
    for place, line in program.places():
        followers[place[0]].extend(goals_at[place])
        own[place[0]] |= written_registers(line)

    def ahead_of(node, behind):
        return own[node] | behind

    return least_sets(followers, ahead_of)[0]


def greatest_table(program):
    """The known table that has all that any right one has."""
    written = _written_at(program)
    leads = _leads(program)
    table = {(name, 0): {} for name in program.names}
    todo = list(table)
    while todo:
        place = todo.pop()
        behind = _known_behind(_line_at(program, place), table[place], written[place])
        for goal in leads[place]:
            met = _common(table[goal], behind) if goal in table else behind
            if goal not in table or len(met) < len(table[goal]):
                table[goal] = met
                todo.append(goal)
    return {place: _in_order(table[place]) for place in leads}


def is_right_table(program, value):
    """Whether any value is a right known table of a program."""
    if not _is_table(program, value):
        return False
    written = _written_at(program)
    leads = _leads(program)
    for place in leads:
        if place[1] == 0 and value[place] != {}:
            return False
        behind = _known_behind(_line_at(program, place), value[place], written[place])
        if not all([_has_all(behind, value[goal]) for goal in leads[place]]):
            return False
    return True


def _is_table(program, value):
    """Whether a value is a dict from exactly the places to dicts from registers to numbers."""
    if not isinstance(value, dict) or len(value) != len(list(program.places())):
        return False
    if not all([is_place(program, place) for place in value]):
        return False
    return all([_is_row(value[place]) for place in value])


def _is_row(value):
    """Whether a value is a dict from registers to numbers."""
    if not isinstance(value, dict):
        return False
    return all([is_int(key) and 0 <= key < REGISTERS and is_number(value[key]) for key in value])


def _written_at(program):
    """A dict from the places to the registers of which nothing may be known behind them but by the line itself."""
    goals_at = all_goals(program)
    writes = function_writes(program)
    written = {}
    for place, line in program.places():
        bits = written_registers(line)
        for goal in goals_at[place]:
            bits |= writes[goal]
        written[place] = registers_of(bits)
    return written


def _leads(program):
    """A dict from the places to lists of those to which their lines lead."""
    leads = {name: ways(program, name) for name in program.names}
    return {(name, at): [(name, goal) for goal in leads[name][at]] for name in leads for at in leads[name]}


def _line_at(program, place):
    """The line at a place."""
    return program[place[0]][place[1]]


def _known_behind(line, ahead, written):
    """What is known behind a line that writes these registers, told what is known ahead of it."""
    behind = {key: ahead[key] for key in ahead if key not in written}
    if line[0] == "num":
        behind[line[1]] = line[2]
    if line[0] == "copy" and line[2] in ahead:
        behind[line[1]] = ahead[line[2]]
    return behind


def _common(one, other):
    """What two rows tell alike."""
    return {key: one[key] for key in one if key in other and other[key] == one[key]}


def _has_all(row, part):
    """Whether a row tells all that the other one tells."""
    return all([key in row and row[key] == part[key] for key in part])


def _in_order(row):
    """A row with ascending keys."""
    return {key: row[key] for key in sorted(row)}
