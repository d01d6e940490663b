"""Random programs, the same ones for the same numbers: shapeless ones, and ones that are built of blocks."""

import random

import reference
from foldlines.programs import BareProgram, Program
from foldlines.sweeping import swept

NAMES = ("main", "a", "b", "end")
LABELS = ("l", "m", "n")


def any_line(chance, bare):
    """A line that is no mark; some words come more often, so that there are tidy functions among the random ones."""
    words = ["num", "copy", "add", "sub", "mul", "addr", "same", "less", "in", "out", "if", "unless", "jump", "call",
             "callr", "tail", "back", "stop"]
    words += [] if bare else ["push", "pop", "pushlink", "poplink", "read", "write"] * 2
    word = chance.choice(words)

    def reg():
        return chance.randrange(3)

    parts = {
        "num": (reg(), chance.choice((0, 1, -1, 7, 8, 2 ** 31 - 1, -(2 ** 31)))), "addr": (reg(), chance.choice(NAMES)),
        "in": (reg(),), "out": (reg(),), "callr": (reg(),), "push": (reg(),), "pop": (reg(),), "back": (), "stop": (),
        "read": (reg(), chance.randrange(2)), "write": (chance.randrange(2), reg()),
        "if": (chance.choice(LABELS),), "unless": (chance.choice(LABELS),), "jump": (chance.choice(LABELS),),
        "call": (chance.choice(NAMES),), "tail": (chance.choice(NAMES),),
    }
    if word in ("pushlink", "poplink"):
        return (word[:-4], "link")
    return (word, *parts.get(word, (reg(), reg(), reg())[:2 if word in ("copy", "same", "less") else 3]))


def any_lines(chance, bare):
    lines = [any_line(chance, bare) for _ in range(chance.randrange(1, 9))]
    for label in LABELS:
        lines.insert(chance.randrange(len(lines) + 1), ("mark", label))
    return lines + [chance.choice((("back",), ("stop",), ("tail", "a"), ("jump", "l"), ("out", 0)))]


def tidy_lines(chance, bare):
    while True:
        lines = any_lines(chance, bare)
        if reference.is_tidy(lines, bare):
            return lines


def tidy_program(chance, bare):
    return {name: tidy_lines(chance, bare) for name in NAMES}


NUMBERS = (0, 5, 5, 100, 100, -9, 2 ** 31 - 1)


class Builder:
    """Builds tidy functions of blocks, in which runs come far. Registers 4 and 5 always have 0."""

    def __init__(self, chance, names):
        self.chance, self.names, self.labels = chance, names, 0

    def label(self):
        self.labels += 1
        return "l" + chr(96 + self.labels)

    def reg(self):
        return self.chance.randrange(4)

    def function(self, name):
        self.labels = 0
        calls = self.chance.random() < 0.6
        if name == "main" and self.chance.random() < 0.7:
            return [*self.blocks(3, 0, True), ("stop",)]
        inner = self.blocks(self.chance.randrange(1, 4), 0, calls)
        if calls:
            inner = [("push", "link"), *inner, ("pop", "link")]
        return [*inner, self.chance.choice((("back",), ("back",), ("tail", self.chance.choice(self.names))))]

    def blocks(self, many, entries, calls):
        return [line for _ in range(many) for line in self.block(entries, calls)]

    def block(self, entries, calls):
        word = self.chance.choice(("ops", "ops", "ops", "numbers", "numbers", "stack", "branch", "both", "loop", "over",
                                   "call", "callr"))
        if word == "call" and calls:
            return [("call", self.chance.choice(self.names))]
        if word == "callr" and calls:
            reg = self.reg()
            return [("addr", reg, self.chance.choice(self.names)), *self.compared(), ("callr", reg)]
        if word == "numbers":
            number = self.chance.choice(NUMBERS)
            return [("num", self.reg(), number), self.op(entries), ("num", self.reg(), number)]
        if self.labels > 6 or word in ("ops", "call", "callr"):
            return [self.op(entries) for _ in range(self.chance.randrange(1, 4))]
        if word == "stack":
            return [("push", self.reg()), *self.blocks(2, entries + 1, calls), ("pop", self.reg())]
        inner = self.blocks(self.chance.randrange(3), entries, calls)
        first, second = self.label(), self.label()
        if word == "branch":
            return [*self.test(), (self.chance.choice(("if", "unless")), first), *inner, ("mark", first)]
        if word == "both":
            other = self.blocks(self.chance.randrange(2), entries, calls)
            return [*self.test(), ("if", first), *inner, ("jump", second), ("mark", first), *other, ("mark", second)]
        if word == "loop":
            return [("mark", first), *inner, ("in", 3), ("same", 3, 4), ("unless", first)]
        return [*self.test(), ("unless", first), ("jump", second), ("mark", first), *inner, ("mark", second)]

    def test(self):
        return [] if self.chance.random() < 0.2 else [(self.chance.choice(("same", "less")), self.reg(), 4)]

    def compared(self):
        return [("same", self.reg(), self.reg())] if self.chance.random() < 0.4 else []

    def op(self, entries):
        word = self.chance.choice(("num", "num", "num", "copy", "add", "sub", "mul", "addr", "same", "less", "in",
                                   "out", "out", "read", "write"))
        reg = self.reg()
        if word == "num":
            return ("num", reg, self.chance.choice(NUMBERS))
        if word == "addr":
            return ("addr", self.chance.choice((2, 3)), self.chance.choice(self.names))
        if word in ("copy", "same", "less"):
            return (word, reg, self.chance.choice((self.reg(), 4)))
        if word in ("in", "out"):
            return (word, reg)
        if word in ("read", "write") and entries:
            k = self.chance.randrange(entries)
            return ("read", reg, k) if word == "read" else ("write", k, reg)
        return (self.chance.choice(("add", "sub", "mul")), reg, self.reg(), self.chance.choice((self.reg(), 4)))


def twin(chance, lines, group):
    """Like lines: other labels, and others of the group of functions that may stand for one another."""
    made = []
    for line in lines:
        if line[0] in ("mark", "jump", "if", "unless"):
            line = (line[0], "t" + line[1])
        elif line[0] in ("call", "tail", "addr") and line[-1] in group and chance.random() < 0.7:
            line = (*line[:-1], chance.choice(group))
        made.append(line)
    return made


def built_program(chance):
    """A swept program of functions that are built of blocks, with groups of functions that are like or nearly so."""
    while True:
        names = ["main", "a", "b", "c"][:chance.randrange(1, 5)]
        builder = Builder(chance, names)
        functions = {name: builder.function(name) for name in names}
        for name in names[:1 + chance.randrange(len(names))]:
            group = [name, *(name[0] + "x" * many for many in range(1, chance.randrange(1, 4)))]
            for other in group[1:]:
                functions[other] = twin(chance, functions[name], group)
                if chance.random() < 0.15:
                    at = chance.randrange(len(functions[other]))
                    functions[other].insert(at, ("out", builder.reg()))
            callers = [made for made in functions if made in names]
            for other in group[1:]:
                caller = functions[chance.choice(callers)]
                reg = chance.choice((1, 2, 3))
                caller.insert(0, ("addr", reg, other))
                if chance.random() < 0.4:
                    caller.insert(1, ("same", reg, chance.choice((2, 3))))
        if all(len(lines) <= 60 for lines in functions.values()) and sum(map(len, functions.values())) <= 240:
            return swept(Program(functions))


def built_programs(number, many):
    """So many built programs, the same ones for the same number."""
    chance = random.Random(number)
    return [built_program(chance) for _ in range(many)]


def variant(chance, program):
    """A swept program in which functions are there twice, each for some of its callers; at times a line is other."""
    functions = {name: list(lines) for name, lines in program.functions.items()}
    for number in range(chance.randrange(1, 3)):
        name = chance.choice(sorted(functions))
        functions["v" + "x" * number] = list(functions[name])
        for lines in functions.values():
            for at, line in enumerate(lines):
                if line[0] in ("call", "tail", "addr") and line[-1] == name and chance.random() < 0.5:
                    lines[at] = (*line[:-1], "v" + "x" * number)
    if chance.random() < 0.3:
        lines = functions[chance.choice(sorted(functions))]
        at = chance.randrange(len(lines))
        if lines[at][0] in ("num", "copy", "add", "in", "out", "same", "addr"):
            lines[at] = ("num", chance.randrange(4), 8)
    if chance.random() < 0.5:
        functions = with_other_names(chance, functions)
    lengths = [len(lines) for lines in functions.values()]
    if len(lengths) > 24 or max(lengths) > 60 or sum(lengths) > 240:
        return program
    return swept(Program(functions))


def with_other_names(chance, functions):
    """The functions with other names, but for main."""
    others = ["n" + chr(97 + at) for at in range(25)]
    names = {name: "main" if name == "main" else others.pop(chance.randrange(len(others))) for name in functions}
    return {names[name]: [(*line[:-1], names[line[-1]]) if line[0] in ("call", "tail", "addr") else line
                          for line in lines] for name, lines in functions.items()}


def chunk(chance, names):
    """A few lines that may be called; some keep entries, some call, some end."""
    def op():
        word = chance.choice(("num", "add", "in", "out", "out", "copy"))
        parts = {"num": (chance.randrange(4), chance.choice(NUMBERS)),
                 "copy": (chance.randrange(4), chance.randrange(4)),
                 "add": tuple(chance.randrange(4) for _ in range(3))}
        return (word, *parts.get(word, (chance.randrange(4),)))

    lines = [op() for _ in range(chance.randrange(1, 5))]
    kind = chance.randrange(6)
    if kind == 0:
        lines = [("push", 0), *lines, ("read", 1, 0), *[op() for _ in range(chance.randrange(2))], ("pop", 2)]
    if kind == 1:
        lines.insert(chance.randrange(len(lines) + 1), ("call", chance.choice(names)))
    if kind == 2:
        lines *= 2
    return lines


def chunked_program(chance):
    """A swept program in which the same lines come again and again, with the link own and lost, and at ends."""
    names = ["main", "a", "b", "c"][:chance.randrange(1, 5)]
    chunks = [chunk(chance, names) for _ in range(chance.randrange(1, 4))]
    end = chance.choice(chunks[:1] + [[("out", 0)]])
    functions = {}
    for name in names:
        inner = []
        for _ in range(chance.randrange(1, 6)):
            inner += chance.choice(chunks)
            if chance.random() < 0.3:
                first = ("mark", "l") not in inner
                inner += [("same", 0, 1), ("if", "l"), ("out", 3), ("mark", "l")] if first else [("in", 1)]
        if any(line[0] == "call" for line in inner):
            inner = [("push", "link"), *inner, ("pop", "link")]
        if name == "main":
            inner += [line for other in names for line in (("call", other), *chance.choice(chunks))] + [("stop",)]
        else:
            calm = [line for line in end if line[0] != "call"]
            inner += calm + [chance.choice((("back",), ("stop",), ("tail", names[-1])))]
        functions[name] = inner
    if max(map(len, functions.values())) > 60:
        return chunked_program(chance)
    return swept(Program(functions))


def chunked_programs(number, many):
    """So many chunked programs, the same ones for the same number."""
    chance = random.Random(number)
    return [chunked_program(chance) for _ in range(many)]


def numbered_program(chance):
    """A swept program in which the same lines come again with other numbers, registers being wanted or not."""
    names = ["main", "a", "b"][:chance.randrange(1, 4)]
    chunks = [chunk(chance, names) + [("num", chance.randrange(4), 9), ("out", chance.randrange(4))] for _ in range(2)]
    functions = {}
    for name in names:
        inner = []
        for _ in range(chance.randrange(2, 6)):
            inner += [("num", line[1], chance.choice(NUMBERS)) if line[0] == "num" and chance.random() < 0.6 else line
                      for line in chance.choice(chunks)]
            if chance.random() < 0.3:
                inner.append(chance.choice((("out", 4), ("add", 4, 4, 5), ("in", 5), ("num", 5, 1))))
        if any(line[0] == "call" for line in inner):
            inner = [("push", "link"), *inner, ("pop", "link")]
        end = [("stop",)] if name == "main" and chance.random() < 0.8 else [("back",)]
        calls = [("call", other) for other in names[1:]] if name == "main" and end == [("stop",)] else []
        functions[name] = [*inner, *calls, *end]
    if max(map(len, functions.values())) > 60:
        return numbered_program(chance)
    return swept(Program(functions))


def numbered_programs(number, many):
    """So many numbered programs, the same ones for the same number."""
    chance = random.Random(number)
    return [numbered_program(chance) for _ in range(many)]


def crowded_program(chance):
    """A swept program in which lines come again in as many ways as gain as much, and few registers are free."""
    def chunk_of(key, many):
        calm = [("num", key, 1), ("num", key, 2), ("out", key), ("out", key), ("add", key, key, key)]
        return [("num", key, 1), *[chance.choice(calm) for _ in range(many)]]

    chunks = [chunk_of(chance.randrange(2), many) for many in (chance.randrange(2, 6), chance.randrange(2, 6))]

    def lines(many):
        row = [chance.choice(chunks) for _ in range(many)]
        row = [[("num", line[1], chance.randrange(3)) if line[0] == "num" and chance.random() < 0.2 else line
                for line in part] for part in row]
        for key in chance.sample([0, 1, 2, 3, 4, 5], chance.randrange(2, 6)):
            first = chance.randrange(len(row))
            row.insert(chance.randrange(first + 1, len(row) + 1), [("out", key)])
            row.insert(first, [("in", key)])
        return [line for part in row for line in part]

    end = chance.choice((("back",), ("stop",)))
    main = [("call", "f"), ("stop",)] if chance.random() < 0.5 else [*lines(3), ("call", "f"), ("stop",)]
    functions = {"main": main, "f": [*lines(chance.randrange(3, 7)), end]}
    if max(map(len, functions.values())) > 60:
        return crowded_program(chance)
    return swept(Program(functions))


def crowded_programs(number, many):
    """So many crowded programs, the same ones for the same number."""
    chance = random.Random(number)
    return [crowded_program(chance) for _ in range(many)]


def ended_program(chance):
    """A swept program in whose functions branches end alike, with rows that are alike or not."""
    functions = {}
    names = ["main", "a", "b"][:chance.randrange(1, 4)]
    for name in names:
        tails = [[("out", chance.randrange(2)) for _ in range(chance.randrange(4))] for _ in range(2)]
        ends = chance.sample([("back",), ("stop",), ("tail", chance.choice(names)), ("jump", "l")], 2)
        lines = [("mark", "l"), ("in", 0), ("less", 0, 1)]
        for at in range(chance.randrange(1, 7)):
            label = "m" + chr(97 + at)
            end = chance.choice(ends)
            tail = chance.choice(tails)[chance.randrange(2):]
            if chance.random() < 0.4:
                tail = [("push", 2), *tail] if end == ("stop",) else [("push", 2), *tail, ("pop", 3)]
            if chance.random() < 0.3:
                tail = [("same", 0, 1), *tail]
            if chance.random() < 0.3:
                tail = [("push", "link"), *tail, ("call", chance.choice(names)), ("pop", "link")]
            lines += [(chance.choice(("if", "unless")), label), *tail, end, ("mark", label)]
        functions[name] = [*lines, *chance.choice(tails), chance.choice(ends)]
    tidy = all(reference.is_tidy(lines, False) for lines in functions.values())
    if max(map(len, functions.values())) > 60 or not tidy:
        return ended_program(chance)
    return swept(Program(functions))


def ended_programs(number, many):
    """So many programs with ends that are alike, the same ones for the same number."""
    chance = random.Random(number)
    return [ended_program(chance) for _ in range(many)]


def bare_program(chance):
    """A swept bare program; most of its functions have loops and branches around calls."""
    if chance.random() < 0.3:
        return swept(BareProgram(tidy_program(chance, True)))
    names = ["main", "a", "b"][:chance.randrange(1, 4)]
    functions = {}
    for name in names:
        labels = ["l", "m", "n", "o"][:chance.randrange(5)]
        lines = [chance.choice((("in", 0), ("out", 0), ("less", 0, 1), ("add", 0, 0, 0))) for _ in range(3)]
        lines += [chance.choice((("call", chance.choice(names)), ("callr", 2), ("call", chance.choice(names)),
                                 ("back",), ("stop",), ("tail", chance.choice(names)), ("addr", 2, name)))
                  for _ in range(chance.randrange(1, 4))]
        lines += [(chance.choice(("if", "unless", "jump")), label) for label in labels]
        lines += [("mark", label) for label in labels]
        chance.shuffle(lines)
        end = chance.choice((("back",), ("stop",), ("tail", names[-1])))
        functions[name] = [("in", 0), ("less", 0, 1), *lines, end]
    return swept(BareProgram(functions))


def bare_programs(number, many):
    """So many bare programs, the same ones for the same number."""
    chance = random.Random(number)
    return [bare_program(chance) for _ in range(many)]


def jumping_program(chance):
    """A swept program of one function in which jumps go over about as much as short ones may."""
    labels = ["j" + chr(97 + at) for at in range(chance.randrange(1, 8))]
    lines = [(chance.choice(("if", "unless")), label) for label in labels for _ in range(chance.choice((1, 1, 1, 2)))]
    lines += [("mark", label) for label in labels]
    lines += [chance.choice((("out", 0), ("num", 0, 100), ("in", 0), ("num", 1, 2))) for _ in range(
        chance.randrange(1, 25))]
    chance.shuffle(lines)
    return swept(Program({"main": [*lines, ("stop",)]}))


def jumping_programs(number, many):
    """So many programs of jumps, the same ones for the same number."""
    chance = random.Random(number)
    return [jumping_program(chance) for _ in range(many)]
