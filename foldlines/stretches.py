"""Which lines of a function may be called instead of standing there."""

from foldlines.errors import InvalidStretch
from foldlines.flow import own, rows
from foldlines.sweeping import require_swept
from foldlines.values import is_int

FLOW_WORDS = ("mark", "jump", "if", "unless")
LAST_WORDS = ("back", "tail", "stop")


def reason(program, name, first, many):
    """Why so many lines of a function may not be called: jump, end, stack or frame; None if they may."""
    require_swept(program)
    lines = program[name]
    if not _is_stretch(lines, first, many):
        raise InvalidStretch((first, many))
    text = lines[first:first + many]
    told = text_reason(text)
    if told is None and text[-1][0] == "stop" and first not in frame_indexes(program, name):
        return "frame"
    return told


def _is_stretch(lines, first, many):
    """Whether any two values are an index of these lines and a number of lines that stand there."""
    if not is_int(first) or not is_int(many):
        return False
    return 0 <= first < len(lines) and 1 <= many <= len(lines) - first


def text_reason(text):
    """Why a text may not be called wherever it stands: jump, end or stack; None if it may."""
    if any([line[0] in FLOW_WORDS for line in text]):
        return "jump"
    if any([line[0] in LAST_WORDS for line in text[:-1]]):
        return "end"
    return None if _keeps_stack(text) else "stack"


def _keeps_stack(text):
    """Whether a text uses only entries of its own, and leaves none, or stops."""
    depth = 0
    for line in text:
        if not _finds_entry(line, depth):
            return False
        if line[0] == "push":
            depth += 1
        if line[0] == "pop":
            depth -= 1
    return depth == 0 or text[-1][0] == "stop"


def _finds_entry(line, depth):
    """Whether a line finds what it needs among so many entries that the text has pushed."""
    if line[0] == "push":
        return line[1] != "link"
    if line[0] == "pop":
        return line[1] != "link" and depth > 0
    if line[0] == "read":
        return line[2] < depth
    return line[0] != "write" or line[1] < depth


def frame_indexes(program, name):
    """The indexes of a function at which nothing of it is on the stack and the link is own."""
    rows_at = rows(program, name)
    return tuple([at for at in own(program, name) if rows_at[at] == ()])
