"""Texts that come again become functions, and functions go back to where they are called."""

from foldlines.covers import POP_LINK, PUSH_LINK, Ground, cover_of, text_of_lines, with_exchanges
from foldlines.errors import InvalidName, InvalidPlaces, NotStraight, SameName
from foldlines.gains import best
from foldlines.lines import named_function
from foldlines.packing import are_apart, best_places
from foldlines.stretches import text_reason
from foldlines.sweeping import require_swept, swept
from foldlines.values import is_filled_list, is_place, is_word
from foldlines.words import fresh_word


def outlined(program, name, lines, places=None):
    """The program in which a new function of this name is called at sites of a text."""
    require_swept(program)
    require_new_name(program, name)
    text = text_of_lines(lines)
    ground = Ground(program)
    told = ground.sites_of(text)
    chosen = best_places(told, len(text)) if places is None else places
    if not _are_chosen(program, told, chosen, len(text)):
        raise InvalidPlaces(chosen)
    exchanges = {place: ground.exchange(place, text, name) for place in chosen}
    functions = with_exchanges(program, exchanges, len(text))
    return program.of_any_size({**functions, name: cover_of(text)})


def require_new_name(program, name):
    """Raises what is due for any value that is not the name of a new function."""
    if not is_word(name):
        raise InvalidName(name)
    if name in program:
        raise SameName(name)


def _are_chosen(program, told, value, many):
    """Whether any value is a list of one or more sites that do not overlap."""
    if not is_filled_list(value) or not all([is_place(program, place) for place in value]):
        return False
    site_places = {place: True for place, _ in told}
    return all([place in site_places for place in value]) and are_apart(sorted(value), many)


def inlined(program, name):
    """The program in which the lines of a function stand where it was called."""
    require_swept(program)
    lines = program[name]
    if not _is_straight(program, name):
        raise NotStraight(name)
    body = [line for line in lines if line not in (PUSH_LINK, POP_LINK)]
    if body[-1][0] in ("back", "tail"):
        body = [*body[:-1], *[("call", line[1]) for line in body[-1:] if line[0] == "tail"]]
    instead = {("tail", name): lines, ("call", name): tuple(body)}
    functions = {caller: [] for caller in program.names}
    for place, line in program.places():
        functions[place[0]].extend(instead.get(line, (line,)))
    return swept(program.of_any_size(functions))


def _is_straight(program, name):
    """Whether the lines of a function can stand where it is called."""
    lines = program[name]
    if name == "main" or any([named_function(line) == name for line in lines]):
        return False
    if any([line[0] == "addr" and line[2] == name for _, line in list(program.places())]):
        return False
    links = [(at, line) for at, line in enumerate(lines) if line in (PUSH_LINK, POP_LINK)]
    kept = [(0, PUSH_LINK), (len(lines) - 2, POP_LINK)]
    return text_reason(lines) not in ("jump", "end") and links in ([], kept)


def rounds(program):
    """As long as a text has a gain: the name of its function, the text, the gain, and the program with it."""
    now = program
    told = best(now)
    while told is not None:
        lines, number = told
        name = fresh_word(now.names)
        now = outlined(now, name, lines)
        yield (name, lines, number, now)
        told = best(now)
