"""A second, plain reading of the document, that random programs are compared with."""

def sites(lines):
    return {line[1]: at for at, line in enumerate(lines) if line[0] == "mark"}


def leads(lines, at):
    word = lines[at][0]
    told = set()
    if word not in ("jump", "back", "tail", "stop"):
        told.add(at + 1)
    if word in ("jump", "if", "unless"):
        told.add(sites(lines)[lines[at][1]])
    return sorted(goal for goal in told if goal < len(lines))


def is_tidy(lines, bare):
    """Goes along all ways with what the function has there, and asks everything at each line."""
    todo, done, rows = [(0, (), True)], set(), {}
    while todo:
        state = todo.pop()
        if state in done:
            continue
        done.add(state)
        at, row, own = state
        line = lines[at]
        word = line[0]
        if at == len(lines) - 1 and word not in ("jump", "back", "tail", "stop"):
            return False
        if not bare:
            if rows.setdefault(at, row) != row:
                return False
            if word in ("back", "tail") and (row or not own) or line == ("push", "link") and not own:
                return False
            if word == "push":
                row = row + ("link" if line[1] == "link" else "value",)
            elif word == "pop":
                if not row or row[-1] != ("link" if line[1] == "link" else "value"):
                    return False
                row = row[:-1]
            elif word in ("read", "write"):
                k = line[2] if word == "read" else line[1]
                if k >= len(row) or list(reversed(row))[k] != "value":
                    return False
            if line == ("pop", "link"):
                own = True
            elif word in ("call", "callr"):
                own = False
        todo += [(goal, row, own) for goal in leads(lines, at)]
    return True


def states(lines):
    """All (index, row, own) on all ways through tidy lines."""
    todo, done = [(0, (), True)], set()
    while todo:
        state = todo.pop()
        if state in done:
            continue
        done.add(state)
        at, row, own = state
        line = lines[at]
        if line[0] == "push":
            row = row + ("link" if line[1] == "link" else "value",)
        if line[0] == "pop":
            row = row[:-1]
        own = line == ("pop", "link") or own and line[0] not in ("call", "callr")
        todo += [(goal, row, own) for goal in leads(lines, at)]
    return done


def wrap(number):
    while number < -(2 ** 31):
        number += 2 ** 32 * max(1, (-(2 ** 31) - number) // 2 ** 32)
    while number > 2 ** 31 - 1:
        number -= 2 ** 32 * max(1, (number - 2 ** 31 + 1) // 2 ** 32)
    return number


def run(functions, bare, inputs, most):
    """Outputs, end, steps, visits and depth after at most so many steps."""
    regs, flag, stack, link, calls = [0] * 6, False, [], None, []
    inputs, outputs, end, steps, visits = list(inputs), [], None, 0, {}
    name, at = "main", 0
    while True:
        lines = functions[name]
        while lines[at][0] == "mark":
            at += 1
        if steps == most:
            break
        line = lines[at]
        word = line[0]
        steps += 1
        visits[name, at] = visits.get((name, at), 0) + 1
        after = (name, at + 1)
        number = {r: isinstance(regs[r], int) for r in range(6)}
        if word == "num":
            regs[line[1]] = line[2]
        elif word == "copy":
            regs[line[1]] = regs[line[2]]
        elif word in ("add", "sub", "mul"):
            if not (number[line[2]] and number[line[3]]):
                end = "kind"
                break
            a, b = regs[line[2]], regs[line[3]]
            regs[line[1]] = wrap({"add": a + b, "sub": a - b, "mul": a * b}[word])
        elif word == "addr":
            regs[line[1]] = ("address", line[2])
        elif word == "same":
            flag = regs[line[1]] == regs[line[2]]
        elif word == "less":
            if not (number[line[1]] and number[line[2]]):
                end = "kind"
                break
            flag = regs[line[1]] < regs[line[2]]
        elif word == "in":
            regs[line[1]] = inputs.pop(0) if inputs else 0
        elif word == "out":
            if not number[line[1]]:
                end = "kind"
                break
            outputs.append(regs[line[1]])
        elif word == "push":
            stack.insert(0, link if line[1] == "link" else regs[line[1]])
        elif word == "pop":
            if line[1] == "link":
                link = stack.pop(0)
            else:
                regs[line[1]] = stack.pop(0)
        elif word == "read":
            regs[line[1]] = stack[line[2]]
        elif word == "write":
            stack[line[1]] = regs[line[2]]
        elif word == "jump" or word == "if" and flag or word == "unless" and not flag:
            after = (name, sites(lines)[line[1]])
        elif word in ("call", "callr"):
            if word == "callr" and number[line[1]]:
                end = "kind"
                break
            calls.append(after)
            link = after
            after = (line[1] if word == "call" else regs[line[1]][1], 0)
        elif word == "tail":
            after = (line[1], 0)
        elif word == "back":
            after = (calls.pop() if calls else None) if bare else link
            if after is None:
                end = "back"
                break
        elif word == "stop":
            end = "stop"
            break
        name, at = after
    return tuple(outputs), end, steps, visits, len(calls) if bare else len(stack)


def swept(functions):
    """Goes from main to the functions that are named, and keeps of each what is needed."""
    kept, todo = {}, ["main"]
    while todo:
        name = todo.pop()
        if name not in kept:
            lines = [functions[name][at] for at in come_to(functions[name])]
            named = [line[1] for line in lines if line[0] in ("jump", "if", "unless")]
            kept[name] = tuple(line for line in lines if line[0] != "mark" or line[1] in named)
            todo += [line[-1] for line in lines if line[0] in ("addr", "call", "tail")]
    return {name: kept[name] for name in sorted(kept)}


def come_to(lines):
    """The indexes that ways from the first line come to, ascending."""
    todo, done = [0], set()
    while todo:
        at = todo.pop()
        if at not in done:
            done.add(at)
            todo += leads(lines, at)
    return sorted(done)


def holds(functions):
    """Passes single functions on until nothing changes."""
    held = {key: set() for key in [*range(6), "stack"]}
    for _ in range(7 * 25):
        for lines in functions.values():
            for line in lines:
                if line[0] == "addr":
                    held[line[1]] |= {line[2]}
                elif line[0] == "copy":
                    held[line[1]] |= held[line[2]]
                elif line[0] == "push" and line[1] != "link":
                    held["stack"] |= held[line[1]]
                elif line[0] == "write":
                    held["stack"] |= held[line[2]]
                elif line[0] == "pop" and line[1] != "link" or line[0] == "read":
                    held[line[1]] |= held["stack"]
    return {key: tuple(sorted(names)) for key, names in held.items()}
