"""The second, plain reading of the document, gone on with: patterns, ends, link lines and lengths."""

import itertools

from reference import best_sites, come_to, keeps, leads, places, sites, size, stack_reason, states, wanted

PLAIN = ("num", "copy", "add", "sub", "mul", "addr", "same", "less", "in", "out", "push", "pop", "read", "write")


def registers(line):
    """The registers that stand in a line."""
    word, rest = line[0], line[1:]
    if word in ("num", "addr", "read"):
        return {rest[0]}
    if word == "write":
        return {rest[1]}
    return {part for part in rest if isinstance(part, int)}


def hole(pattern):
    return [line[0] == "num" and line[2] is None for line in pattern].index(True)


def with_number(pattern, number):
    at = hole(pattern)
    return (*pattern[:at], ("num", pattern[at][1], number), *pattern[at + 1:])


def is_pattern(value):
    """For a tuple of lines, some of which may be num lines with None."""
    words = [line[0] for line in value]
    holes = [line for line in value if line[0] == "num" and line[2] is None]
    return bool(value) and all(word in PLAIN for word in words) and len(holes) == 1 and not stack_reason(value)


def pattern_places(functions, pattern):
    """The places at which the pattern stands, with the numbers that stand there."""
    told = []
    for (name, first), _ in places(functions):
        lines = functions[name][first:first + len(pattern)]
        if len(lines) == len(pattern) and lines[hole(pattern)][0] == "num":
            number = lines[hole(pattern)][2]
            if lines == with_number(pattern, number):
                told.append(((name, first), number))
    return told


def near_cover(pattern, t):
    at = hole(pattern)
    return (*pattern[:at], ("copy", pattern[at][1], t), *pattern[at + 1:], ("back",))


def near_sites(functions, pattern, t, ahead=None):
    ahead = wanted(functions)[0] if ahead is None else ahead
    other = size(pattern[:hole(pattern)]) + size(pattern[hole(pattern) + 1:])
    return [((name, first), other - (4 if keeps(functions[name], first + len(pattern), pattern) else 2))
            for (name, first), _ in pattern_places(functions, pattern) if t not in ahead[name, first]]


def near_gain(functions, pattern, ahead=None):
    found = []
    for t in range(6):
        if not any(t in registers(line) for line in pattern):
            told = near_sites(functions, pattern, t, ahead)
            best = best_sites(told, len(pattern))
            number = sum(saved for place, saved in told if place in best) - size(near_cover(pattern, t))
            found.append((-number, len(best), t, best))
    if not found:
        return None
    number, _, t, best = min(found)
    return (-number, t, best)


def best_near(functions):
    ahead = wanted(functions)[0]
    patterns = set()
    for lines in functions.values():
        for first in range(len(lines)):
            for last in range(first + 1, len(lines) + 1):
                text = lines[first:last]
                if text[-1][0] not in PLAIN or text[-1][-1] == "link":
                    break
                for at, line in enumerate(text):
                    if line[0] == "num":
                        patterns.add((*text[:at], ("num", line[1], None), *text[at + 1:]))
    found = []
    for pattern in patterns:
        if is_pattern(pattern) and len(pattern_places(functions, pattern)) > 1:
            told = near_gain(functions, pattern, ahead)
            if told is not None and told[0] > 0:
                found.append((-told[0], -len(pattern), told[2][0], hole(pattern), pattern))
    if not found:
        return None
    told = min(found, key=lambda row: row[:4])
    return (told[4], -told[0])


def outlined_near(functions, name, pattern):
    _, t, chosen = near_gain(functions, pattern)
    numbers = dict(pattern_places(functions, pattern))
    made = {name: near_cover(pattern, t)}
    for caller, lines in functions.items():
        row, at = [], 0
        while at < len(lines):
            if (caller, at) not in chosen:
                row.append(lines[at])
                at += 1
                continue
            row.append(("num", t, numbers[caller, at]))
            at += len(pattern)
            call = ("call", name)
            row += [("push", "link"), call, ("pop", "link")] if keeps(lines, at, pattern) else [call]
        made[caller] = tuple(row)
    return dict(sorted(made.items()))


def is_end(line):
    return line[0] in ("jump", "back", "tail", "stop")


def run_of(lines, end):
    """The indexes of the run of an end, the end first."""
    told = [end]
    while told[-1] > 0:
        above = lines[told[-1] - 1]
        if above[0] in ("mark", "if", "unless") or is_end(above):
            break
        told.append(told[-1] - 1)
    return told


def share(lines, end, earlier, k, rows):
    """Whether two ends share their last k lines."""
    one, other = run_of(lines, end), run_of(lines, earlier)
    if k > len(one) or k > len(other):
        return False
    return [lines[at] for at in one[:k]] == [lines[at] for at in other[:k]] and rows[one[k - 1]] == rows[other[k - 1]]


def all_shares(lines):
    """A dict from the ends to lists of (earlier, k, size), for all lines that they share."""
    rows = {at: row for at, row, _ in states(lines)}
    ends = [at for at, line in enumerate(lines) if is_end(line)]
    told = {end: [] for end in ends}
    for end, earlier in itertools.product(ends, ends):
        if earlier < end:
            for k in range(1, len(lines)):
                if share(lines, end, earlier, k, rows):
                    told[end].append((earlier, k, size(lines[end + 1 - k:end + 1])))
    return told


def sharing(lines):
    told = []
    for end, rows in all_shares(lines).items():
        best = min(((-total, earlier, k) for earlier, k, total in rows), default=(0, 0, 0))
        if -best[0] > 2:
            told.append((end, best[1], best[2]))
    return tuple(told)


def most_shared(lines):
    """The most that any choice of ends and of lines to be shared saves: each end has its own."""
    return sum(max([total - 2 for _, _, total in rows] + [0]) for rows in all_shares(lines).values())


def shared(lines, words):
    """The lines with marks and jumps put in from behind, one for one."""
    made = list(lines)
    labels = {}
    taken = list(sites(lines))
    for end, earlier, k in sharing(lines):
        goal = earlier - k + 1
        if goal not in labels:
            labels[goal] = next(word for word in words() if word not in taken)
            taken.append(labels[goal])
    jumps = {end - k + 1: (k, labels[earlier - k + 1]) for end, earlier, k in sharing(lines)}
    for at in reversed(range(len(lines))):
        if at in jumps:
            made[at:at + jumps[at][0]] = [("jump", jumps[at][1])]
        if at in labels:
            made.insert(at, ("mark", labels[at]))
    return tuple(made)


def bare_steps(lines):
    """Pairs of nodes, the way in being -1."""
    told = [(-1, 0)]
    for at, line in enumerate(lines):
        if not is_end(line) and not tied(lines, at, at + 1):
            told.append((at, at + 1))
    return told


def tied(lines, one, other):
    if one < 0 or other < 0:
        return False
    for jump, mark in ((one, other), (other, one)):
        if lines[jump][0] in ("jump", "if", "unless") and lines[mark] == ("mark", lines[jump][1]):
            return True
    return False


def is_choice(lines, saved):
    marks = sites(lines)
    for at, line in enumerate(lines):
        if line[0] in ("call", "callr") and at not in saved or line[0] in ("back", "tail") and at in saved:
            return False
        if line[0] in ("jump", "if", "unless") and (at in saved) != (marks[line[1]] in saved):
            return False
    return True


def paid(lines, saved):
    return [(one, other) for one, other in bare_steps(lines) if (one in saved) != (other in saved)]


def choices(lines):
    """All choices of saved lines, as sets; lines that are tied are chosen together."""
    marks = sites(lines)
    groups = {}
    for at, line in enumerate(lines):
        groups.setdefault(marks[line[1]] if line[0] in ("jump", "if", "unless") else at, []).append(at)
    fixed = {at for at, line in enumerate(lines) if line[0] in ("call", "callr")}
    free = [group for group in groups.values() if lines[group[0]][0] not in ("call", "callr", "back", "tail")]
    for number in range(len(free) + 1):
        for some in itertools.combinations(free, number):
            yield fixed.union(*some)


def least_choices(lines):
    least = None
    found = []
    for saved in choices(lines):
        cost = len(paid(lines, saved))
        if least is None or cost < least:
            least, found = cost, []
        if cost == least:
            found.append(saved)
    return least, found


def is_saving(lines, value):
    """For a tuple of an ascending tuple of indexes and a tuple of tuples of nodes."""
    saved, ways = value
    if not is_choice(lines, saved) or len(ways) != len(paid(lines, saved)):
        return False
    gone = []
    for way in ways:
        if way[0] != -1 and lines[way[0]][0] not in ("back", "tail"):
            return False
        if way[-1] == -1 or lines[way[-1]][0] not in ("call", "callr"):
            return False
        for one, other in zip(way, way[1:]):
            pair = (min(one, other), max(one, other))
            if pair in bare_steps(lines):
                gone.append(pair)
            elif not tied(lines, one, other):
                return False
    return len(gone) == len(set(gone))


def linked(lines, saved):
    made = []
    for one, other in [(at - 1, at) for at in range(len(lines))]:
        if (one, other) in paid(lines, saved):
            made.append(("push" if other in saved else "pop", "link"))
        made.append(lines[other])
    return tuple(made)


def all_lengths(lines):
    """All dicts from the jumps and branches to 1 or 2 each 1 of which is right."""
    jumps = [at for at, line in enumerate(lines) if line[0] in ("jump", "if", "unless")]
    for numbers in itertools.product((1, 2), repeat=len(jumps)):
        taken = dict(zip(jumps, numbers))
        if all(number == 2 or reach(lines, at, taken) <= 15 for at, number in taken.items()):
            yield taken


def reach(lines, at, taken):
    mark = sites(lines)[lines[at][1]]
    between = range(at + 1, mark) if mark > at else range(mark + 1, at + 1)
    return sum(taken.get(other, size([lines[other]])) for other in between)


def lengths(lines):
    """The dict with the fewest 2, which is to be the only one."""
    told = sorted(all_lengths(lines), key=lambda taken: sum(taken.values()))
    if len(told) > 1:
        assert sum(told[0].values()) < sum(told[1].values())
    return told[0]
