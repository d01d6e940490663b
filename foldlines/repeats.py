"""Stretches of lines that stand at several places of a program."""

from foldlines.stretches import FLOW_WORDS, LAST_WORDS

LINK_LINES = (("push", "link"), ("pop", "link"))


def repeated_stretches(program):
    """A list of tuples (places, many): the two or more places, ascending, at which the same so many lines stand.

    The lines at the first and the last one do not overlap.
    """
    found = []
    level = [[place for place, _ in program.places()]]
    many = 0
    while level:
        many += 1
        longer = []
        for places in level:
            longer.extend(_parted(program, places, many))
        found.extend([(places, many) for places in longer])
        level = longer
    return found


def _parted(program, places, many):
    """Lists of two or more of these places, with one line less in common, that have so many lines in common."""
    parts = {}
    for place in places:
        name, first = place
        lines = program[name]
        last = first + many - 1
        if last < len(lines) and _may_follow(lines, first, last):
            parts.setdefault(lines[last], []).append(place)
    return [part for part in parts.values() if _are_apart(part[0], part[-1], many)]


def _are_apart(place, other, many):
    """Whether so many lines at two places, the second one not being the lesser one, do not overlap."""
    return place[0] != other[0] or other[1] - place[1] >= many


def _may_follow(lines, first, last):
    """Whether the line at the index last may stand in a text that begins at first."""
    if lines[last][0] in FLOW_WORDS or lines[last] in LINK_LINES:
        return False
    return last == first or lines[last - 1][0] not in LAST_WORDS
