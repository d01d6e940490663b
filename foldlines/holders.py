"""Which functions the registers and the stack may hold the addresses of."""

from foldlines.errors import UnknownPlace
from foldlines.limits import REGISTERS
from foldlines.sweeping import require_swept
from foldlines.values import is_place


def holds(program):
    """A dict from the registers and the stack to the names of the functions that they may hold."""
    require_swept(program)
    held = _named_by_addr(program)
    flows = _flows(program)
    grown = True
    while grown:
        grown = False
        for source, goal in flows:
            if _pass_on(held, source, goal):
                grown = True
    return {key: tuple(sorted(held[key])) for key in held}


def _named_by_addr(program):
    """A dict from the holders to dicts of the functions whose addresses lines put there."""
    held = {key: {} for key in list(range(REGISTERS)) + ["stack"]}
    for _, line in program.places():
        if line[0] == "addr":
            held[line[1]][line[2]] = True
    return held


def _flows(program):
    """The pairs of holders of which the second one gets all that the first one has."""
    flows = [_flow(line) for _, line in program.places()]
    return [flow for flow in flows if flow is not None]


def _flow(line):
    """From which holder to which one a line takes a value, None if it does not."""
    if line[0] == "copy":
        return (line[2], line[1])
    if line[0] == "write":
        return (line[2], "stack")
    if line[0] == "push" and line[1] != "link":
        return (line[1], "stack")
    if line[0] == "read" or line[0] == "pop" and line[1] != "link":
        return ("stack", line[1])
    return None


def _pass_on(held, source, goal):
    """Whether the second holder got a function from the first one that it had not."""
    missing = [name for name in held[source] if name not in held[goal]]
    for name in missing:
        held[goal][name] = True
    return len(missing) > 0


def goals(program, place):
    """The names of the functions at whose first lines a call, callr or tail may go on."""
    held = holds(program)
    if not is_place(program, place):
        raise UnknownPlace(place)
    return _goals_of(program[place[0]][place[1]], held)


def all_goals(program):
    """A dict from all places to the goals of their lines."""
    held = holds(program)
    return {place: _goals_of(line, held) for place, line in program.places()}


def _goals_of(line, held):
    """The goals of a line, told what the registers hold."""
    if line[0] in ("call", "tail"):
        return (line[1],)
    return held[line[1]] if line[0] == "callr" else ()


def shown(program):
    """The names of the functions whose addresses may be compared."""
    held = holds(program)
    found = {}
    for _, line in program.places():
        if line[0] == "same" and held[line[1]] and held[line[2]]:
            for name in (*held[line[1]], *held[line[2]]):
                found[name] = True
    return tuple(sorted(found))
