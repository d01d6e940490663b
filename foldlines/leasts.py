"""The least sets that rules ask for, each set being the bits of one integer."""


def least_sets(followers, ahead_of):
    """Two dicts from the nodes to the least sets ahead of them, and behind them.

    Behind a node is all that is ahead of its followers; ahead_of(node, behind) tells what this makes of it,
    and never less for more.
    """
    users = _users_of(followers)
    ahead = {node: 0 for node in followers}
    behind = {node: 0 for node in followers}
    todo = list(followers)
    while todo:
        node = todo.pop()
        bits = ahead_of(node, behind[node])
        if bits != ahead[node]:
            ahead[node] = bits
            for user in users[node]:
                if bits | behind[user] != behind[user]:
                    behind[user] |= bits
                    todo.append(user)
    return (ahead, behind)


def _users_of(followers):
    """A dict from the nodes to lists of those that they follow."""
    users = {node: [] for node in followers}
    for node, follower_row in followers.items():
        for follower in follower_row:
            users[follower].append(node)
    return users
