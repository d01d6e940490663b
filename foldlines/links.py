"""Bare programs keep their links by themselves, by lines that stand where they cost least."""

from foldlines.covers import POP_LINK, PUSH_LINK
from foldlines.nets import WAY_IN, Net, least_cut
from foldlines.programs import Program
from foldlines.sweeping import require_swept
from foldlines.values import is_int


def saving(bare, name):
    """The indexes of the saved lines of the least choice that is part of all others."""
    return saving_paper(bare, name)[0]


def saving_paper(bare, name):
    """A least choice of saved lines, and as many ways as it has paid steps."""
    return least_cut(_net_of(bare, name))


def _net_of(bare, name):
    """The net of a function of a bare program."""
    require_swept(bare)
    return Net(bare[name])


def linked(bare):
    """The program that keeps the link by pushes and pops at the paid steps."""
    require_swept(bare)
    return Program.of_any_size({name: _linked_lines(bare[name]) for name in bare.names})


def _linked_lines(lines):
    """The lines of a function with the pushes and pops of the link."""
    net = Net(lines)
    saved = least_cut(net)[0]
    paid = net.paid_steps(saved)
    made = []
    for at, line in enumerate(lines):
        if at - 1 in paid:
            made.append(PUSH_LINK if at in saved else POP_LINK)
        made.append(line)
    return made


def is_saving(bare, name, value):
    """Whether any value is a least choice of saved lines with as many ways as it has paid steps."""
    net = _net_of(bare, name)
    if not isinstance(value, tuple) or len(value) != 2:
        return False
    saved, ways = value
    if not _is_choice(net, saved) or not isinstance(ways, tuple) or not all([_is_way(net, way) for way in ways]):
        return False
    gone = [step for way in ways for step in _steps_of(net, way)]
    return len(set(gone)) == len(gone) and len(ways) == len(net.paid_steps(saved))


def _is_choice(net, value):
    """Whether any value is an ascending tuple of indexes that may be the saved ones."""
    if not isinstance(value, tuple) or not all([_is_node(net, at) and at != WAY_IN for at in value]):
        return False
    if not all([at < other for at, other in zip(value, value[1:])]):
        return False
    if not all([at in value for at in net.saved]) or any([at in value for at in net.unsaved]):
        return False
    return all([(at in value) == (net.heads[at] in value) for at in net.heads])


def _is_node(net, value):
    """Whether any value is an index of the function, or the way in."""
    return is_int(value) and value in net.heads


def _is_way(net, value):
    """Whether any value is a way from the way in, a back or a tail to a call."""
    if not isinstance(value, tuple) or len(value) < 2 or not all([_is_node(net, node) for node in value]):
        return False
    if value[0] not in net.unsaved or value[-1] not in net.saved:
        return False
    return all([_may_follow(net, node, other) for node, other in zip(value, value[1:])])


def _may_follow(net, node, other):
    """Whether a step leads from one of two nodes to the other, or one is tied to the other."""
    if node == other:
        return False
    return net.are_tied(node, other) or abs(node - other) == 1 and min(node, other) in net.all_steps


def _steps_of(net, way):
    """The steps along which a way goes."""
    pairs = list(zip(way, way[1:]))
    return [min(node, other) for node, other in pairs if not net.are_tied(node, other)]
