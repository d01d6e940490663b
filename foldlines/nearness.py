"""Stretches of lines that stand at several places but for the number of one num line."""

from foldlines.effects import named_bits, registers_of
from foldlines.facts import link_wanted
from foldlines.lines import CALL_WORDS, line_size
from foldlines.repeats import LINK_LINES
from foldlines.stretches import FLOW_WORDS, LAST_WORDS
from foldlines.wants import wants

# The bits of the registers from 0 to 5.
ALL_REGISTERS = 63


def may_be_in_pattern(line):
    """Whether a line may stand in a pattern that may be called."""
    return line[0] not in (*FLOW_WORDS, *LAST_WORDS, *CALL_WORDS) and line not in LINK_LINES


class Strip:
    """The lines of all functions of a program in a row.

    Lines go by their spots in this row. What stands there is told by keys: two spots have the same key, which is
    0 for a line that may not stand in a pattern, exactly if their lines are the same. The last line of a function
    is always such a line, so that no stretch reaches into the next one.
    """

    def __init__(self, program):
        self.place_at = []
        self.line_keys = []
        self.number_keys = []
        self.named = []
        self.spare = []
        self.starts = [0]
        self.linked = []
        ahead = wants(program)[0]
        numbers = {}
        for name in program.names:
            linked = link_wanted(program, name)
            for at, line in enumerate(program[name]):
                may = may_be_in_pattern(line)
                self.place_at.append((name, at))
                self.line_keys.append(numbers.setdefault(line, len(numbers) + 1) if may else 0)
                self.number_keys.append(line[1] + 1 if line[0] == "num" else 0)
                self.named.append(named_bits([line]))
                self.spare.append(ALL_REGISTERS & ~ahead[(name, at)])
                self.starts.append(self.starts[-1] + line_size(line))
                self.linked.append(at in linked)

    def parted(self, group, offset, keys):
        """Groups of two or more spots of this one with the same key so far behind them, but without the keyless.

        A group is a tuple of spots and the registers that stand in their lines. Each spot has a register that is free
        for a number there, and at another spot of the group; the lines of the first and the last one do not overlap.
        """
        spots, named = group
        parts = {}
        for spot in spots:
            key = keys[spot + offset]
            if key:
                parts.setdefault(key, []).append(spot)
        found = []
        for part in parts.values():
            more = named | self.named[part[0] + offset]
            free = self._free_twice(part) & ~more
            left = [spot for spot in part if self.spare[spot] & free]
            if left and left[-1] - left[0] > offset:
                found.append((left, more))
        return found

    def _free_twice(self, spots):
        """The registers that are spare at two or more of these spots."""
        once = 0
        twice = 0
        for spot in spots:
            twice |= once & self.spare[spot]
            once |= self.spare[spot]
        return twice

    def most_gained(self, group, many, hole):
        """A number that is not below the gain of so many lines at the spots of a group, the hole being free."""
        spots, named = group
        first = spots[0]
        others = self.starts[first + many] - self.starts[first]
        others -= self.starts[first + hole + 1] - self.starts[first + hole]
        everywhere = ALL_REGISTERS & ~named
        for spot in spots:
            everywhere &= self.spare[spot]
        if everywhere:
            return self._most_saved(spots, many, others) - (others + 2)
        free = [[at for at in spots if self.spare[at] >> key & 1] for key in registers_of(~named)]
        return max([self._most_saved(part, many, others) for part in free]) - (others + 2)

    def _most_saved(self, spots, many, others):
        """A number that is not below what is saved at these spots by so many lines, whose others have this size."""
        cheap = _most_apart([spot for spot in spots if not self.linked[spot + many]], many)
        # Where the link is wanted 4 are lost instead of 2, and nothing is saved by less.
        if others <= 4:
            return cheap * (others - 2)
        return _most_apart(spots, many) * (others - 4) + cheap * 2


def _most_apart(spots, many):
    """How many of these ascending spots of so many lines each do not overlap, if they are the most."""
    number = 0
    free = 0
    for spot in spots:
        if spot >= free:
            number += 1
            free = spot + many
    return number


def near_stretches(program):
    """Tuples (most, many, hole, places), the greatest most and many first: the places at which the same lines stand.

    But for the number at the hole they are the same. No more than most, which is above 0, can be gained by them.
    """
    strip = Strip(program)
    found = []
    level = [(list(range(len(strip.line_keys))), 0)]
    hole = 0
    while level:
        longer = []
        for group in level:
            found.extend(_with_hole(strip, group, hole))
            longer.extend(strip.parted(group, hole, strip.line_keys))
        level = longer
        hole += 1
    rows = sorted(found)
    return [(-most, -many, at, [strip.place_at[spot] for spot in spots]) for most, many, at, spots in rows]


def _with_hole(strip, group, hole):
    """Tuples (-most, -many, hole, spots) for the stretches that begin as this group and have their hole behind it."""
    found = []
    level = strip.parted(group, hole, strip.number_keys)
    many = hole + 1
    while level:
        longer = []
        for tail in level:
            most = strip.most_gained(tail, many, hole)
            if most > 0:
                found.append((-most, -many, hole, tail[0]))
            longer.extend(strip.parted(tail, many, strip.line_keys))
        level = longer
        many += 1
    return found
