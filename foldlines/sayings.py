"""What rows of a console say."""

from foldlines.smallest import PASSES
from foldlines.texts import lines_of_row, part_of
from foldlines.values import is_int, is_number, is_word

MOST_SAID = 999999
LOAD = "load\n"

# For each first word of a row the kinds of the parts behind it; those of edit and run, which may be many, are not here.
FORMS = {
    "make": ("pass",),
    "put": ("name", "name", "count", "count"),
    "take": ("name",),
    "undo": ("count",),
    "redo": ("count",),
    "size": (),
    "text": (),
    "shown": (),
    "live": (),
    "classes": (),
    "reason": ("name", "count", "count"),
    "best": (),
    "table": (),
}


def saying_of(row):
    """The first word of a row and a tuple of what stands behind it; None for any value that is no row."""
    if not isinstance(row, str):
        return None
    if row.startswith(LOAD):
        return ("load", (row.removeprefix(LOAD),))
    if not row.startswith("try "):
        return _plain_saying(row)
    tried = _plain_saying(row.removeprefix("try "))
    return None if tried is None else ("try", tried)


def _plain_saying(row):
    """What a row says that is neither load nor try; None if it is no such row."""
    word, *parts = row.split(" ")
    if word == "edit":
        return _edit_saying(parts)
    if word == "run":
        return _run_saying(parts)
    # How many steps are undone or redone need not be said.
    kinds = () if word in ("undo", "redo") and not parts else FORMS.get(word)
    if kinds is None or len(parts) != len(kinds):
        return None
    told = tuple([part_of(part) for part in parts])
    return (word, told) if all([_fits(kind, part) for kind, part in zip(kinds, told)]) else None


def _edit_saying(parts):
    """What a row says that begins with edit, and has these parts behind it."""
    lines = lines_of_row(" ".join(parts[1:]))
    return ("edit", (parts[0], lines)) if parts and is_word(parts[0]) and lines is not None else None


def _run_saying(parts):
    """What a row says that begins with run, and has these parts behind it."""
    told = [part_of(part) for part in parts]
    if not told or not _fits("count", told[0]) or not all([is_number(part) for part in told[1:]]):
        return None
    return ("run", (told[0], told[1:]))


def _fits(kind, part):
    """Whether a part of a row is of this kind."""
    if kind == "pass":
        return part in PASSES
    if kind == "name":
        return is_word(part)
    return is_int(part) and 0 <= part <= MOST_SAID
