"""What is wanted ahead of lines and behind them: what later lines may still use."""

from foldlines.effects import is_pure, used_bits, written_bits
from foldlines.flow import ways
from foldlines.holders import all_goals
from foldlines.leasts import least_sets
from foldlines.lines import CALL_WORDS


def wants(program):
    """Two dicts from the places to the bits that are wanted ahead of their lines, and behind them."""
    def ahead_of(node, behind):
        return _wanted_ahead(_line_at(program, node), behind)

    return least_sets(_followers(program), ahead_of)


def wants_without(program, gone):
    """As wants, if the lines at these places did nothing, and all others used what they use in any case."""
    def ahead_of(node, behind):
        line = None if node in gone else _line_at(program, node)
        return behind if line is None else behind & ~written_bits(line) | used_bits(line)

    return least_sets(_followers(program), ahead_of)


def _line_at(program, node):
    """The line of a node that is a place; None for the name of a function, which stands for what is behind it."""
    return None if isinstance(node, str) else program[node[0]][node[1]]


def _wanted_ahead(line, behind):
    """What is wanted ahead of a line with this wanted behind it."""
    if line is None or is_pure(line) and not behind & written_bits(line):
        return behind
    return behind & ~written_bits(line) | used_bits(line)


def _followers(program):
    """A dict from the places, and the names of the functions, to lists of those that come behind them."""
    goals_at = all_goals(program)
    leads = {name: ways(program, name) for name in program.names}
    followers = {name: [] for name in program.names}
    for place, line in program.places():
        name, at = place
        if line[0] == "back":
            followers[place] = [name]
        elif line[0] in CALL_WORDS or line[0] == "tail":
            followers[place] = [(goal, 0) for goal in goals_at[place]]
            for goal in goals_at[place]:
                followers[goal].append(name if line[0] == "tail" else (name, at + 1))
        else:
            followers[place] = [(name, goal) for goal in leads[name][at]]
    return followers
