"""Passes that take lines away by what is known and wanted."""

from foldlines.errors import InvalidPlaces, InvalidTable
from foldlines.facts import idle, is_idle, is_known, known
from foldlines.lines import line_size
from foldlines.sweeping import require_swept, swept


def cheaper(program, table=None):
    """The program without numbers that registers have already, and with copies where these are smaller."""
    require_swept(program)
    if table is not None and not is_known(program, table):
        raise InvalidTable(table)
    told = known(program) if table is None else table
    functions = {name: [] for name in program.names}
    for place, line in program.places():
        functions[place[0]].extend(_cheaper_line(line, told[place]))
    return swept(program.of_any_size(functions))


def _cheaper_line(line, row):
    """The lines, one or none, instead of a line ahead of which a row of numbers is known."""
    if line[0] != "num":
        return [line]
    same = [key for key in sorted(row) if row[key] == line[2]]
    if line[1] in same:
        return []
    if same and line_size(line) > 1:
        return [("copy", line[1], same[0])]
    return [line]


def dropped(program, places=None):
    """The program without the lines at these places."""
    require_swept(program)
    if places is not None and not is_idle(program, places):
        raise InvalidPlaces(places)
    told = idle(program) if places is None else places
    gone = {place: True for place in told}
    functions = {name: [] for name in program.names}
    for place, line in program.places():
        if place not in gone:
            functions[place[0]].append(line)
    return swept(program.of_any_size(functions))
