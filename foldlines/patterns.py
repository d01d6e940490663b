"""Texts that come again but for one number, which is put into a register ahead of the call."""

from foldlines.covers import Ground, with_exchanges
from foldlines.effects import named_bits
from foldlines.errors import InvalidLines, InvalidPlaces
from foldlines.limits import REGISTERS
from foldlines.lines import is_line, lines_size
from foldlines.nearness import may_be_in_pattern, near_stretches
from foldlines.outlining import require_new_name
from foldlines.packing import best_places, saved_together
from foldlines.stretches import text_reason
from foldlines.sweeping import require_swept
from foldlines.values import is_filled_list
from foldlines.wants import wants


def near_gain(program, pattern):
    """What is gained by a pattern, its register, and its best sites; None if its lines have all registers."""
    require_swept(program)
    return _near_gain(program, _pattern_of_lines(pattern))


def _near_gain(program, pattern):
    """What near_gain tells of a pattern that may be called."""
    return NearGround(program).gain_at(_places_of(program, pattern), pattern)


def _pattern_of_lines(value):
    """A list of lines as a pattern; raises InvalidLines for any value that is none, or that may nowhere be called."""
    if not is_filled_list(value) or not all([is_line(line) or _is_hole(line) for line in value]):
        raise InvalidLines(value)
    if len([line for line in value if _is_hole(line)]) != 1 or not all([may_be_in_pattern(line) for line in value]):
        raise InvalidLines(value)
    if text_reason(value) is not None:
        raise InvalidLines(value)
    return tuple(value)


def _is_hole(value):
    """Whether any value is the line of a pattern whose number is free."""
    if not isinstance(value, tuple) or len(value) != 3:
        return False
    return value[0] == "num" and value[2] is None and is_line((*value[:2], 0))


def _hole_of(pattern):
    """The index of the line whose number is free."""
    return [at for at, line in enumerate(pattern) if _is_hole(line)][0]


def _places_of(program, pattern):
    """The places at which a pattern stands, ascending."""
    hole = _hole_of(pattern)
    many = len(pattern)
    ahead, behind = pattern[:hole], pattern[hole + 1:]
    found = []
    for name in program.names:
        lines = program[name]
        for first in range(len(lines) - many + 1):
            if lines[first + hole][:2] == pattern[hole][:2] and lines[first:first + hole] == ahead:
                if lines[first + hole + 1:first + many] == behind:
                    found.append((name, first))
    return found


def _near_cover(pattern, key):
    """What a function has that is called instead of a pattern, with the number in this register."""
    hole = _hole_of(pattern)
    return (*pattern[:hole], ("copy", pattern[hole][1], key), *pattern[hole + 1:], ("back",))


class NearGround:
    """What the sites of patterns in a program depend on."""

    def __init__(self, program):
        self._ground = Ground(program)
        self._wanted = wants(program)[0]

    def gain_at(self, places, pattern):
        """What near_gain tells of a pattern that stands at these places."""
        named = named_bits(pattern)
        found = None
        done = []
        for key in range(REGISTERS):
            if named >> key & 1:
                continue
            told = self._sites_at(places, pattern, key)
            # What has the sites of a lesser register is never better than that one.
            if told not in done:
                done.append(told)
                chosen = best_places(told, len(pattern))
                number = saved_together(told, chosen) - lines_size(_near_cover(pattern, key))
                if found is None or (-number, len(chosen)) < (-found[0], len(found[2])):
                    found = (number, key, chosen)
        return found

    def _sites_at(self, places, pattern, key):
        """Which of these places are sites of a pattern with the number in this register, and what they save."""
        hole = _hole_of(pattern)
        others = lines_size(pattern[:hole]) + lines_size(pattern[hole + 1:])
        begun = [place for place in places if not self._wanted[place] >> key & 1]
        return [(place, others - (4 if self._ground.keeps_link(place, pattern) else 2)) for place in begun]

    def exchange(self, number, key, place, pattern, name):
        """The lines that stand at a site of a pattern instead, and call the function of this name with this number."""
        return (("num", key, number), *self._ground.exchange(place, pattern, name))


def best_near(program):
    """The pattern with the greatest gain, and this gain; None if no pattern has one above 0."""
    require_swept(program)
    ground = NearGround(program)
    found = None
    for most, many, hole, places in near_stretches(program):
        if found is not None and most < -found[0][0]:
            break
        pattern = _pattern_at(program, places[0], many, hole)
        if text_reason(pattern) is None:
            number, _, chosen = ground.gain_at(places, pattern)
            if number > 0 and (found is None or (-number, -many, chosen[0], hole) < found[0]):
                found = ((-number, -many, chosen[0], hole), pattern)
    return None if found is None else (found[1], -found[0][0])


def _pattern_at(program, place, many, hole):
    """The pattern that stands at a place with its free number at the hole."""
    name, first = place
    lines = program[name][first:first + many]
    return (*lines[:hole], ("num", lines[hole][1], None), *lines[hole + 1:])


def outlined_near(program, name, pattern):
    """The program in which a new function of this name is called at the best sites of a pattern."""
    require_swept(program)
    require_new_name(program, name)
    text = _pattern_of_lines(pattern)
    told = _near_gain(program, text)
    if told is None or not told[2]:
        raise InvalidPlaces(())
    _, key, places = told
    ground = NearGround(program)
    hole = _hole_of(text)
    exchanges = {}
    for caller, first in places:
        number = program[caller][first + hole][2]
        exchanges[(caller, first)] = ground.exchange(number, key, (caller, first), text, name)
    functions = with_exchanges(program, exchanges, len(text))
    return program.of_any_size({**functions, name: _near_cover(text, key)})
