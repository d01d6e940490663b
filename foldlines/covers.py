"""Texts, what functions of their own have for them, and what stands at their sites instead."""

from foldlines.errors import InvalidLines
from foldlines.facts import link_wanted
from foldlines.lines import CALL_WORDS, is_line, lines_size
from foldlines.stretches import LAST_WORDS, frame_indexes, text_reason
from foldlines.values import is_filled_list

PUSH_LINK = ("push", "link")
POP_LINK = ("pop", "link")


def text_of_lines(value):
    """A list of lines as a text; raises InvalidLines for any value that is none, or that may nowhere be called."""
    if not is_filled_list(value) or not all([is_line(line) for line in value]):
        raise InvalidLines(value)
    if text_reason(value) is not None:
        raise InvalidLines(value)
    return tuple(value)


def cover_of(text):
    """What a function has that is called instead of a text."""
    if text[-1][0] in LAST_WORDS:
        return text
    if any([line[0] in CALL_WORDS for line in text]):
        return (PUSH_LINK, *text, POP_LINK, ("back",))
    return (*text, ("back",))


class Ground:
    """What the sites of texts in a program depend on."""

    def __init__(self, program):
        self._program = program
        self._linked = {name: link_wanted(program, name) for name in program.names}
        self._frames = {name: frame_indexes(program, name) for name in program.names}

    def may_begin(self, place, text):
        """Whether a text that stands at a place, and may be called elsewhere, may be called there."""
        return text[-1][0] != "stop" or place[1] in self._frames[place[0]]

    def keeps_link(self, place, text):
        """Whether the link must be kept around the call of a text at a place."""
        return text[-1][0] not in LAST_WORDS and place[1] + len(text) in self._linked[place[0]]

    def exchange(self, place, text, name):
        """The lines that stand at a site of a text instead, and call the function of this name."""
        if text[-1][0] in LAST_WORDS:
            return (("tail", name),)
        if self.keeps_link(place, text):
            return (PUSH_LINK, ("call", name), POP_LINK)
        return (("call", name),)

    def sites_among(self, places, text):
        """The sites of a text, which stands at these places, with what each of them saves."""
        size = lines_size(text)
        begun = [place for place in places if self.may_begin(place, text)]
        return [(place, size - (4 if self.keeps_link(place, text) else 2)) for place in begun]

    def sites_of(self, text):
        """The sites of a text that may be called, with what each of them saves, ascending."""
        return self.sites_among(_places_of(self._program, text), text)


def _places_of(program, text):
    """The places at which a text stands, ascending."""
    many = len(text)
    return [place for place, line in program.places()
            if line == text[0] and program[place[0]][place[1]:place[1] + many] == text]


def with_exchanges(program, exchanges, many):
    """A dict from the names to the lines, with others instead of so many lines at each of some places."""
    return {name: _exchanged(program, name, exchanges, many) for name in program.names}


def _exchanged(program, name, exchanges, many):
    """The lines of a function with others instead of so many lines at some places."""
    lines = []
    at = 0
    while at < len(program[name]):
        if (name, at) in exchanges:
            lines.extend(exchanges[(name, at)])
            at += many
        else:
            lines.append(program[name][at])
            at += 1
    return lines
