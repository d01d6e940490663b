"""What is reached in the lines of one function, and whether these lines are tidy.

Lines that are not reached have no row and no link: nothing is asked of them.
"""

from foldlines.lines import CALL_WORDS, END_WORDS, marks_of


def reached_ways(lines):
    """A dict from each reached index, ascending, to the tuple of those to which it leads."""
    marks = marks_of(lines)
    found = {}
    todo = [0]
    while todo:
        at = todo.pop()
        if at not in found:
            found[at] = _leads(lines, at, marks)
            todo.extend(found[at])
    return {at: found[at] for at in sorted(found)}


def _leads(lines, at, marks):
    """The indexes to which the line at this index leads, each once, ascending."""
    line = lines[at]
    if line[0] in ("back", "tail", "stop"):
        return ()
    if line[0] == "jump":
        return (marks[line[1]],)
    behind = (at + 1,) if at + 1 < len(lines) else ()
    if line[0] in ("if", "unless") and marks[line[1]] not in behind:
        return tuple(sorted([*behind, marks[line[1]]]))
    return behind


def rows_of(lines, ways):
    """A dict from each reached index to its row; None if a line has two rows or may not have its row."""
    found = {0: ()}
    todo = [0]
    while todo:
        at = todo.pop()
        row = _row_behind(lines[at], found[at])
        if row is None:
            return None
        for goal in ways[at]:
            if goal not in found:
                found[goal] = row
                todo.append(goal)
            elif found[goal] != row:
                return None
    return {at: found[at] for at in sorted(found)}


def _row_behind(line, row):
    """The row behind a line with this row ahead of it; None if the line may not have it."""
    word = line[0]
    if word == "push":
        return (*row, _entry_of(line))
    if word == "pop":
        return row[:-1] if row[-1:] == (_entry_of(line),) else None
    if word == "read":
        return row if _has_value(row, line[2]) else None
    if word == "write":
        return row if _has_value(row, line[1]) else None
    if word in ("back", "tail"):
        return row if row == () else None
    return row


def _entry_of(line):
    """What a push lays on the row, or a pop finds there."""
    return "link" if line[1] == "link" else "value"


def _has_value(row, k):
    """Whether the entry k below the top of a row is there and is a value."""
    return k < len(row) and row[len(row) - 1 - k] == "value"


def own_indexes(lines, ways):
    """The reached indexes, ascending, at which the link is own."""
    own = {at: True for at in ways}
    todo = list(ways)
    while todo:
        at = todo.pop()
        if _own_behind(lines[at], own[at]):
            continue
        for goal in ways[at]:
            if own[goal]:
                own[goal] = False
                todo.append(goal)
    return tuple([at for at in ways if own[at]])


def _own_behind(line, own):
    """Whether the link is own behind a line, told whether it is ahead of it."""
    if line == ("pop", "link"):
        return True
    return own and line[0] not in CALL_WORDS


def is_tidy(lines, bare):
    """Whether lines that name only labels of their own are tidy; of bare ones only their last line is asked."""
    ways = reached_ways(lines)
    if len(lines) - 1 in ways and lines[-1][0] not in END_WORDS:
        return False
    if bare:
        return True
    if rows_of(lines, ways) is None:
        return False
    own = own_indexes(lines, ways)
    return all([at in own for at in ways if _needs_own(lines[at])])


def _needs_own(line):
    """Whether a line may stand only where the link is own."""
    return line == ("push", "link") or line[0] in ("back", "tail")
