"""The lines of a bare function as a net of steps, in which what must be saved is cut off from what must not."""

from foldlines.lines import CALL_WORDS, END_WORDS, marks_of, named_label

WAY_IN = -1
UP = 1
DOWN = -1


class Net:
    """The nodes of a function, which are its indexes and the way in, and the steps between them.

    A step goes by the index of its first node; the second one is the next index. Jumps and branches are tied to
    the marks of their labels: a mark is the head of all that are tied to it, every other node is its own head.
    """

    def __init__(self, lines):
        marks = marks_of(lines)
        labels = [named_label(line) for line in lines]
        self.heads = {WAY_IN: WAY_IN}
        for at, label in enumerate(labels):
            self.heads[at] = at if label is None else marks[label]
        self.saved = [at for at, line in enumerate(lines) if line[0] in CALL_WORDS]
        self.unsaved = [WAY_IN, *[at for at, line in enumerate(lines) if line[0] in ("back", "tail")]]
        leading = [WAY_IN, *[at for at, line in enumerate(lines) if line[0] not in END_WORDS]]
        self.all_steps = [at for at in leading if not self.are_tied(at, at + 1)]

    def are_tied(self, one, other):
        """Whether one of two different nodes is a mark to which the other one is tied."""
        return self.heads[one] == self.heads[other] and self.heads[one] in (one, other)

    def paid_steps(self, saved):
        """The steps one of whose sides is among these saved nodes and the other one not."""
        return [step for step in self.all_steps if (step in saved) != (step + 1 in saved)]


def least_cut(net):
    """The least saved indexes of a net, ascending, and ways that show that no choice has fewer paid steps."""
    links = _links(net)
    flows = {step: 0 for step in net.all_steps}
    came, end = _search(net, links, flows)
    while end is not None:
        _send(came, end, flows)
        came, end = _search(net, links, flows)
    saved = tuple([at for at in net.heads if at != WAY_IN and net.heads[at] in came])
    return (saved, _ways(net, links, flows))


def _links(net):
    """A dict from the heads to lists of the steps away from them, with their directions and the heads behind them."""
    links = {head: [] for head in net.heads.values()}
    for step in net.all_steps:
        low, high = net.heads[step], net.heads[step + 1]
        links[low].append((step, UP, high))
        links[high].append((step, DOWN, low))
    return links


def _search(net, links, flows):
    """How the heads are come to from the calls, along steps that are still free, and an end that is, if one is."""
    came = {at: None for at in net.saved}
    todo = list(net.saved)
    while todo:
        head = todo.pop(0)
        if head in net.unsaved:
            return (came, head)
        for step, way, goal in links[head]:
            if goal not in came and flows[step] != way:
                came[goal] = (step, way, head)
                todo.append(goal)
    return (came, None)


def _send(came, end, flows):
    """Goes back from an end to the call from which it was come to, and takes the steps on this way."""
    head = end
    while came[head] is not None:
        step, way, head = came[head]
        flows[step] += way


def _ways(net, links, flows):
    """The ways from the ends to the calls along the steps that were taken."""
    left = dict(flows)
    ways = []
    for call in net.saved:
        nodes = _way_from(net, links, left, call)
        while len(nodes) > 1:
            ways.append(tuple(nodes[::-1]))
            nodes = _way_from(net, links, left, call)
    return tuple(ways)


def _way_from(net, links, left, call):
    """The nodes from a call on along steps that are left, which are not left any more."""
    nodes = [call]
    head = call
    step, way, goal = _next_step(links[head], left)
    while step is not None:
        left[step] = 0
        near, far = (step, step + 1) if way == UP else (step + 1, step)
        nodes.extend(_tied_nodes(net, nodes[-1], near))
        nodes.append(far)
        head = goal
        step, way, goal = (None, UP, head) if head in net.unsaved else _next_step(links[head], left)
    return nodes


def _next_step(row, left):
    """The first of these steps that is left, with its direction and the head behind it; None if none is."""
    for step, way, goal in row:
        if left[step] == way:
            return (step, way, goal)
    return (None, UP, None)


def _tied_nodes(net, node, goal):
    """The nodes behind this one, up to another one with the same head, that are gone along without a step."""
    if node == goal:
        return []
    head = net.heads[node]
    return [goal] if head in (node, goal) else [head, goal]
