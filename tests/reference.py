"""A second, plain reading of the document, that random programs are compared with."""

import functools
import itertools


def sites(lines):
    return {line[1]: at for at, line in enumerate(lines) if line[0] == "mark"}


def leads(lines, at):
    word = lines[at][0]
    told = set()
    if word not in ("jump", "back", "tail", "stop"):
        told.add(at + 1)
    if word in ("jump", "if", "unless"):
        told.add(sites(lines)[lines[at][1]])
    return sorted(goal for goal in told if goal < len(lines))


def is_tidy(lines, bare):
    """Goes along all ways with what the function has there, and asks everything at each line."""
    todo, done, rows = [(0, (), True)], set(), {}
    while todo:
        state = todo.pop()
        if state in done:
            continue
        done.add(state)
        at, row, own = state
        line = lines[at]
        word = line[0]
        if at == len(lines) - 1 and word not in ("jump", "back", "tail", "stop"):
            return False
        if not bare:
            if rows.setdefault(at, row) != row:
                return False
            if word in ("back", "tail") and (row or not own) or line == ("push", "link") and not own:
                return False
            if word == "push":
                row = row + ("link" if line[1] == "link" else "value",)
            elif word == "pop":
                if not row or row[-1] != ("link" if line[1] == "link" else "value"):
                    return False
                row = row[:-1]
            elif word in ("read", "write"):
                k = line[2] if word == "read" else line[1]
                if k >= len(row) or list(reversed(row))[k] != "value":
                    return False
            if line == ("pop", "link"):
                own = True
            elif word in ("call", "callr"):
                own = False
        todo += [(goal, row, own) for goal in leads(lines, at)]
    return True


def states(lines):
    """All (index, row, own) on all ways through tidy lines."""
    todo, done = [(0, (), True)], set()
    while todo:
        state = todo.pop()
        if state in done:
            continue
        done.add(state)
        at, row, own = state
        line = lines[at]
        if line[0] == "push":
            row = row + ("link" if line[1] == "link" else "value",)
        if line[0] == "pop":
            row = row[:-1]
        own = line == ("pop", "link") or own and line[0] not in ("call", "callr")
        todo += [(goal, row, own) for goal in leads(lines, at)]
    return done


def wrap(number):
    while number < -(2 ** 31):
        number += 2 ** 32 * max(1, (-(2 ** 31) - number) // 2 ** 32)
    while number > 2 ** 31 - 1:
        number -= 2 ** 32 * max(1, (number - 2 ** 31 + 1) // 2 ** 32)
    return number


def run(functions, bare, inputs, most):
    """Outputs, end, steps, visits and depth after at most so many steps."""
    regs, flag, stack, link, calls = [0] * 6, False, [], None, []
    inputs, outputs, end, steps, visits = list(inputs), [], None, 0, {}
    name, at = "main", 0
    while True:
        lines = functions[name]
        while lines[at][0] == "mark":
            at += 1
        if steps == most:
            break
        line = lines[at]
        word = line[0]
        steps += 1
        visits[name, at] = visits.get((name, at), 0) + 1
        after = (name, at + 1)
        number = {r: isinstance(regs[r], int) for r in range(6)}
        if word == "num":
            regs[line[1]] = line[2]
        elif word == "copy":
            regs[line[1]] = regs[line[2]]
        elif word in ("add", "sub", "mul"):
            if not (number[line[2]] and number[line[3]]):
                end = "kind"
                break
            a, b = regs[line[2]], regs[line[3]]
            regs[line[1]] = wrap({"add": a + b, "sub": a - b, "mul": a * b}[word])
        elif word == "addr":
            regs[line[1]] = ("address", line[2])
        elif word == "same":
            flag = regs[line[1]] == regs[line[2]]
        elif word == "less":
            if not (number[line[1]] and number[line[2]]):
                end = "kind"
                break
            flag = regs[line[1]] < regs[line[2]]
        elif word == "in":
            regs[line[1]] = inputs.pop(0) if inputs else 0
        elif word == "out":
            if not number[line[1]]:
                end = "kind"
                break
            outputs.append(regs[line[1]])
        elif word == "push":
            stack.insert(0, link if line[1] == "link" else regs[line[1]])
        elif word == "pop":
            if line[1] == "link":
                link = stack.pop(0)
            else:
                regs[line[1]] = stack.pop(0)
        elif word == "read":
            regs[line[1]] = stack[line[2]]
        elif word == "write":
            stack[line[1]] = regs[line[2]]
        elif word == "jump" or word == "if" and flag or word == "unless" and not flag:
            after = (name, sites(lines)[line[1]])
        elif word in ("call", "callr"):
            if word == "callr" and number[line[1]]:
                end = "kind"
                break
            calls.append(after)
            link = after
            after = (line[1] if word == "call" else regs[line[1]][1], 0)
        elif word == "tail":
            after = (line[1], 0)
        elif word == "back":
            after = (calls.pop() if calls else None) if bare else link
            if after is None:
                end = "back"
                break
        elif word == "stop":
            end = "stop"
            break
        name, at = after
    return tuple(outputs), end, steps, visits, len(calls) if bare else len(stack)


def swept(functions):
    """Goes from main to the functions that are named, and keeps of each what is needed."""
    kept, todo = {}, ["main"]
    while todo:
        name = todo.pop()
        if name not in kept:
            lines = [functions[name][at] for at in come_to(functions[name])]
            named = [line[1] for line in lines if line[0] in ("jump", "if", "unless")]
            kept[name] = tuple(line for line in lines if line[0] != "mark" or line[1] in named)
            todo += [line[-1] for line in lines if line[0] in ("addr", "call", "tail")]
    return {name: kept[name] for name in sorted(kept)}


def come_to(lines):
    """The indexes that ways from the first line come to, ascending."""
    todo, done = [0], set()
    while todo:
        at = todo.pop()
        if at not in done:
            done.add(at)
            todo += leads(lines, at)
    return sorted(done)


def holds(functions):
    """Passes single functions on until nothing changes."""
    held = {key: set() for key in [*range(6), "stack"]}
    for _ in range(7 * 25):
        for lines in functions.values():
            for line in lines:
                if line[0] == "addr":
                    held[line[1]] |= {line[2]}
                elif line[0] == "copy":
                    held[line[1]] |= held[line[2]]
                elif line[0] == "push" and line[1] != "link":
                    held["stack"] |= held[line[1]]
                elif line[0] == "write":
                    held["stack"] |= held[line[2]]
                elif line[0] == "pop" and line[1] != "link" or line[0] == "read":
                    held[line[1]] |= held["stack"]
    return {key: tuple(sorted(names)) for key, names in held.items()}


def written(line):
    """What a line writes: a register or the flag."""
    if line[0] in ("same", "less"):
        return {"flag"}
    if line[0] in ("num", "copy", "add", "sub", "mul", "addr", "in", "pop", "read"):
        return {line[1]} - {"link"}
    return set()


def used(line):
    word = line[0]
    if word in ("if", "unless"):
        return {"flag"}
    if word in ("out", "push", "callr"):
        return {line[1]} - {"link"}
    if word in ("same", "less"):
        return {line[1], line[2]}
    if word in ("copy", "write"):
        return {line[2]}
    return {line[2], line[3]} if word in ("add", "sub", "mul") else set()


def goals(functions, line):
    if line[0] in ("call", "tail"):
        return {line[1]}
    return set(holds(functions)[line[1]]) if line[0] == "callr" else set()


def places(functions):
    return [((name, at), line) for name, lines in functions.items() for at, line in enumerate(lines)]


def writes(functions):
    told = {name: set() for name in functions}
    for _ in functions:
        for (name, _), line in places(functions):
            told[name] |= written(line) - {"flag"}
            for goal in goals(functions, line):
                told[name] |= told[goal]
    return {name: tuple(sorted(told[name])) for name in functions}


def known(functions):
    """Begins with all facts that one can think of, and strikes out those that the words do not let stand."""
    numbers = {line[2] for _, line in places(functions) if line[0] == "num"}
    table = {place: {(r, n) for r in range(6) for n in numbers} for place, _ in places(functions)}
    for name in functions:
        table[name, 0] = set()
    lost = {}
    for place, line in places(functions):
        lost[place] = written(line) | {r for goal in goals(functions, line) for r in writes(functions)[goal]}
    while True:
        struck = False
        for (name, at), line in places(functions):
            behind = {(r, n) for r, n in table[name, at] if r not in lost[name, at]}
            behind |= {(line[1], line[2])} if line[0] == "num" else set()
            behind |= {(line[1], n) for r, n in table[name, at] if r == line[2]} if line[0] == "copy" else set()
            for goal in leads(functions[name], at):
                if not table[name, goal] <= behind:
                    table[name, goal] &= behind
                    struck = True
        if not struck:
            return {place: dict(sorted(table[place])) for place in table}


def wanted(functions, gone=None):
    """What is wanted ahead of all lines, and behind them; where gone is a list, as is_idle takes it."""
    ahead = {place: set() for place, _ in places(functions)}
    after = dict(ahead)
    reach = {place: goals(functions, line) for place, line in places(functions)}
    while True:
        changed = False
        for (name, at), line in reversed(places(functions)):
            behind = set()
            for goal in behind_places(functions, name, at, reach):
                behind |= ahead[goal]
            pure = line[0] in ("num", "copy", "addr", "read", "same")
            told = behind - written(line)
            if gone is None and (not pure or written(line) & behind) or gone is not None:
                told |= used(line)
            if gone is not None and (name, at) in gone:
                told = behind
            elif gone is None and pure and not written(line) & behind:
                told = behind
            if told != ahead[name, at] or behind != after[name, at]:
                ahead[name, at], after[name, at], changed = told, behind, True
        if not changed:
            return ahead, after


def behind_places(functions, name, at, reach):
    line = functions[name][at]
    if line[0] in ("call", "callr", "tail"):
        return [(goal, 0) for goal in reach[name, at]]
    if line[0] == "back":
        told, todo, done = [], [name], set()
        while todo:
            f = todo.pop()
            if f not in done:
                done.add(f)
                for (g, index), other in places(functions):
                    if other[0] == "tail" and other[1] == f:
                        todo.append(g)
                    elif other[0] in ("call", "callr") and f in reach[g, index]:
                        told.append((g, index + 1))
        return told
    return [(name, goal) for goal in leads(functions[name], at)]


def in_order(told):
    return (*sorted(told - {"flag"}), *(told & {"flag"}))


def idle(functions):
    after = wanted(functions)[1]
    return tuple(place for place, line in places(functions)
                 if line[0] in ("num", "copy", "addr", "read", "same") and not written(line) & after[place])


def is_idle(functions, gone):
    """For a list of different places of pure lines."""
    after = wanted(functions, gone)[1]
    return not any(written(functions[name][at]) & after[name, at] for name, at in gone)


@functools.cache
def link_wanted(lines):
    """Goes along all ways from each line to see what comes first."""
    told = []
    for first in range(len(lines)):
        todo, done, found = [first], set(), False
        while todo:
            at = todo.pop()
            if at in done:
                continue
            done.add(at)
            if lines[at] in (("back",), ("push", "link")) or lines[at][0] == "tail":
                found = True
            elif lines[at] != ("pop", "link") and lines[at][0] not in ("call", "callr"):
                todo += leads(lines, at)
        told += [first] if found else []
    return tuple(told)


def straightened(functions):
    """One rule at the least place, and from the beginning again."""
    functions = {name: list(lines) for name, lines in functions.items()}
    while True:
        before = {name: tuple(lines) for name, lines in functions.items()}
        while one_rule(functions):
            pass
        functions = {name: list(lines) for name, lines in swept(functions).items()}
        if before == {name: tuple(lines) for name, lines in functions.items()}:
            return before


def one_rule(functions):
    for name in sorted(functions):
        lines = functions[name]
        for at, line in enumerate(lines):
            if line[0] not in ("jump", "if", "unless"):
                continue
            labels = [line[1]]
            while True:
                behind = [other for other in lines[sites(lines)[labels[-1]]:] if other[0] != "mark"][0]
                if behind[0] != "jump" or behind[1] in labels:
                    break
                labels.append(behind[1])
            if behind[0] != "jump" and len(labels) > 1:
                lines[at] = (line[0], labels[-1])
                return True
            if line[1] in marks_behind(lines, at):
                del lines[at]
                return True
            if line[0] != "jump" and lines[at + 1][0] == "jump" and line[1] in marks_behind(lines, at + 1):
                lines[at:at + 2] = [("unless" if line[0] == "if" else "if", lines[at + 1][1])]
                return True
    return False


def marks_behind(lines, at):
    """The labels of the marks directly behind a line."""
    told = []
    for line in lines[at + 1:]:
        if line[0] != "mark":
            break
        told.append(line[1])
    return told


def agree(lines, twins, at):
    line, twin = lines[at], twins[at]
    if line[0] != twin[0]:
        return False
    if line[0] in ("mark", "call", "tail"):
        return True
    if line[0] in ("jump", "if", "unless"):
        return sites(lines)[line[1]] == sites(twins)[twin[1]]
    return line[1] == twin[1] if line[0] == "addr" else line == twin


def shown(functions):
    held = holds(functions)
    pairs = [(held[line[1]], held[line[2]]) for _, line in places(functions) if line[0] == "same"]
    return tuple(sorted({name for one, other in pairs if one and other for name in one + other}))


def one_to_go(functions, f, g, told, seen):
    """Whether two functions may be one, if those that told says may."""
    lines, twins = functions[f], functions[g]
    if len(lines) != len(twins):
        return False
    for at, line in enumerate(lines):
        if not agree(lines, twins, at):
            return False
        if line[0] in ("call", "tail") and not told(line[1], twins[at][1]):
            return False
        if line[0] == "addr" and line[2] != twins[at][2]:
            if not told(line[2], twins[at][2]) or line[2] in seen or twins[at][2] in seen:
                return False
    return True


def classes(functions):
    """Begins with all pairs, and strikes out those that may not be one."""
    pairs = {(f, g) for f in functions for g in functions}
    seen = shown(functions)
    while True:
        left = {(f, g) for f, g in pairs if one_to_go(functions, f, g, lambda a, b: (a, b) in pairs, seen)}
        if left == pairs:
            return tuple(sorted({tuple(sorted(g for h, g in pairs if h == f)) for f in functions}))
        pairs = left


def is_unlike(functions, f, g, row):
    """For a tuple of entries that are tuples of three."""
    seen = shown(functions)
    for number, (a, b, at) in enumerate(row):
        if (a, b) != (f, g):
            return False
        last = number == len(row) - 1
        if at is None:
            return last and len(functions[f]) != len(functions[g])
        if not 0 <= at < min(len(functions[f]), len(functions[g])):
            return False
        line, twin = functions[f][at], functions[g][at]
        if last:
            apart = line[0] == "addr" and line[2] != twin[-1] and (line[2] in seen or twin[-1] in seen)
            return not agree(functions[f], functions[g], at) or apart
        if not agree(functions[f], functions[g], at) or line[0] not in ("call", "tail", "addr"):
            return False
        f, g = line[-1], twin[-1]
    return False


def folded(functions):
    made, seen = {}, shown(functions)
    parts = {name: part for part in classes(functions) for name in part}
    heads = {}
    for name, part in parts.items():
        heads[name] = "main" if "main" in part else min([one for one in part if one in seen] or part)
    for name, lines in functions.items():
        row = []
        for line in lines:
            if line[0] in ("call", "tail"):
                line = (line[0], heads[line[1]])
            elif line[0] == "addr" and replaced(line[2], heads, parts, seen):
                line = ("addr", line[1], heads[line[2]])
            row.append(line)
        if name in seen and name != heads[name] and not replaced(name, heads, parts, seen) and size(lines) > 2:
            row = [("tail", heads[name])]
        made[name] = row
    return swept(made)


def replaced(name, heads, parts, seen):
    """Whether addr lines name the representative instead."""
    if name not in seen:
        return True
    return heads[name] not in seen and name == min(one for one in parts[name] if one in seen)


def size(lines):
    told = {"mark": 0, "addr": 3, "jump": 2, "if": 2, "unless": 2, "call": 2, "tail": 2}
    return sum(3 if line[0] == "num" and not -8 <= line[2] <= 7 else told.get(line[0], 1) for line in lines)


def is_alike(one, other):
    """Gathers all pairs and all address pairs, then looks at each two of them."""
    pairs, todo = set(), [("main", "main")]
    while todo:
        f, g = todo.pop()
        if (f, g) in pairs:
            continue
        pairs.add((f, g))
        lines, twins = one[f], other[g]
        if len(lines) != len(twins) or not all(agree(lines, twins, at) for at in range(len(lines))):
            return False
        todo += [(line[-1], twin[-1]) for line, twin in zip(lines, twins) if line[0] in ("call", "tail", "addr")]
    told = {(line[2], twin[2]) for f, g in pairs for line, twin in zip(one[f], other[g]) if line[0] == "addr"}
    seen, others = shown(one), shown(other)
    for f, g in told:
        for h, i in told:
            if (f == h) != (g == i) and (f in seen or h in seen or g in others or i in others):
                return False
    return True


def is_alike_row(one, other, row):
    """Whether a tuple of entries is one from (main, main) on; its last entry need not agree, or may be at None."""
    f, g = "main", "main"
    for number, (a, b, at) in enumerate(row):
        if (a, b) != (f, g) or at is not None and not 0 <= at < min(len(one[f]), len(other[g])):
            return False
        if number == len(row) - 1:
            return True
        if at is None or not agree(one[f], other[g], at) or one[f][at][0] not in ("call", "tail", "addr"):
            return False
        f, g = one[f][at][-1], other[g][at][-1]
    return False


def is_parted(one, other, paper):
    """For papers of the right forms."""
    if not all(is_alike_row(one, other, row) for row in paper[1:]):
        return False
    ends = [row[-1] for row in paper[1:]]
    if paper[0] == "lines":
        f, g, at = ends[0]
        return len(one[f]) != len(other[g]) if at is None else not agree(one[f], other[g], at)
    if any(at is None or not agree(one[f], other[g], at) or one[f][at][0] != "addr" for f, g, at in ends):
        return False
    (f, g), (h, i) = [(one[f][at][2], other[g][at][2]) for f, g, at in ends]
    some = f in shown(one) or h in shown(one) or g in shown(other) or i in shown(other)
    return (f == h) != (g == i) and some


def words():
    """All words in word order."""
    for many in range(1, 9):
        for letters in itertools.product("abcdefghijklmnopqrstuvwxyz", repeat=many):
            yield "".join(letters)


def reason(lines, first, many):
    text = lines[first:first + many]
    if any(line[0] in ("mark", "jump", "if", "unless") for line in text):
        return "jump"
    if any(line[0] in ("back", "tail", "stop") for line in text[:-1]):
        return "end"
    if stack_reason(text):
        return "stack"
    if text[-1] == ("stop",):
        if any(at == first and (row or not own) for at, row, own in states(lines)):
            return "frame"
    return None


def stack_reason(text):
    row = []
    for line in text:
        if line in (("push", "link"), ("pop", "link")):
            return True
        if line[0] == "push":
            row.append(line)
        elif line[0] == "pop":
            if not row:
                return True
            row.pop()
        elif line[0] == "read" and line[2] >= len(row) or line[0] == "write" and line[1] >= len(row):
            return True
    return bool(row) and text[-1] != ("stop",)


def cover(text):
    if text[-1][0] in ("back", "tail", "stop"):
        return tuple(text)
    if any(line[0] in ("call", "callr") for line in text):
        return (("push", "link"), *text, ("pop", "link"), ("back",))
    return (*text, ("back",))


def text_sites(functions, text):
    told = []
    for (name, first), _ in places(functions):
        lines = functions[name]
        if lines[first:first + len(text)] == tuple(text) and reason(lines, first, len(text)) is None:
            told.append(((name, first), size(text) - (4 if keeps(lines, first + len(text), text) else 2)))
    return told


def keeps(lines, behind, text):
    return text[-1][0] not in ("back", "tail", "stop") and behind in link_wanted(lines)


def best_sites(sites, many):
    """Tries all sets of a few sites; of more, what is best ahead of each site, one after the other."""
    sites = [site for site in sites if site[1] > 0]
    if len(sites) < 9:
        found = []
        for number in range(len(sites) + 1):
            for chosen in itertools.combinations(sites, number):
                pairs = itertools.combinations([place for place, _ in chosen], 2)
                if all(a[0] != b[0] or abs(a[1] - b[1]) >= many for a, b in pairs):
                    found.append((-sum(saved for _, saved in chosen), number, tuple(place for place, _ in chosen)))
        return min(found)[2]
    ahead = [(0, 0, ())]
    for at, (place, saved) in enumerate(sites):
        free = sum(other[0] != place[0] or other[1] + many <= place[1] for other, _ in sites[:at])
        before = ahead[free]
        ahead.append(min(ahead[-1], (before[0] - saved, before[1] + 1, (*before[2], place))))
    return ahead[-1][2]


def gain(functions, text):
    sites = text_sites(functions, text)
    best = best_sites(sites, len(text))
    return sum(saved for place, saved in sites if place in best) - size(cover(text)), best


def is_gain(functions, text, value):
    """For a tuple of an integer, a tuple of places, and a dict from places to integers."""
    number, chosen, prices = value
    sites = dict(text_sites(functions, text))
    many = len(text)
    if sorted(set(chosen)) != list(chosen) or any(place not in sites for place in chosen):
        return False
    if any(a[0] == b[0] and abs(a[1] - b[1]) < many for a, b in itertools.combinations(chosen, 2)):
        return False
    if any(price <= 0 for price in prices.values()):
        return False
    for (name, first), saved in sites.items():
        if sum(prices.get((name, first + at), 0) for at in range(many)) < saved:
            return False
    total = sum(sites[place] for place in chosen)
    return sum(prices.values()) == total and number == total - size(cover(text))


def best(functions):
    texts = {lines[first:last] for lines in functions.values() for last in range(len(lines) + 1)
             for first in range(last) if reason(lines, first, last - first) is None}
    found = []
    for text in texts:
        number, chosen = gain(functions, text)
        if number > 0:
            found.append((-number, -len(text), chosen[0], text))
    return (min(found)[3], -min(found)[0]) if found else None


def outlined(functions, name, text, chosen):
    made = {name: cover(text)}
    for caller, lines in functions.items():
        row, at = [], 0
        while at < len(lines):
            if (caller, at) not in chosen:
                row.append(lines[at])
                at += 1
                continue
            at += len(text)
            call = [("tail" if text[-1][0] in ("back", "tail", "stop") else "call", name)]
            row += [("push", "link"), *call, ("pop", "link")] if keeps(lines, at, text) else call
        made[caller] = tuple(row)
    return made


def is_straight(functions, name):
    lines = functions[name]
    if name == "main" or any(line[0] == "addr" and line[2] == name for _, line in places(functions)):
        return False
    if any(line[-1] == name and line[0] in ("call", "tail") for line in lines):
        return False
    if any(line[0] in ("mark", "jump", "if", "unless") for line in lines):
        return False
    if any(line[0] in ("back", "tail", "stop") for line in lines[:-1]):
        return False
    links = [at for at, line in enumerate(lines) if line in (("push", "link"), ("pop", "link"))]
    return not links or links == [0, len(lines) - 2] and lines[0][0] == "push" and lines[-2][0] == "pop"


def inlined(functions, name):
    made = {}
    for caller, lines in functions.items():
        row = []
        for line in lines:
            if line == ("tail", name):
                row += functions[name]
            elif line == ("call", name):
                for other in functions[name]:
                    if other not in (("push", "link"), ("pop", "link"), ("back",)):
                        row.append(("call", other[1]) if other[0] == "tail" else other)
            else:
                row.append(line)
        made[caller] = row
    return swept(made)
