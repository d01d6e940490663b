"""Sites that do not overlap and save most, and the prices of lines that show it.

Sites are an ascending list of tuples (place, saved), all of so many lines.
"""


def are_apart(places, many):
    """Whether ascending places of so many lines each are different and do not overlap."""
    follow = list(zip(places, places[1:]))
    return all([place < other and not _overlap(place, other, many) for place, other in follow])


def _overlap(place, other, many):
    """Whether lines from a place on reach to a later one."""
    return place[0] == other[0] and other[1] < place[1] + many


def best_places(sites, many):
    """The places that save most together, of these the fewest, then the least ones."""
    paying = [site for site in sites if site[1] > 0]
    behind = _next_apart(paying, many)
    # What is best from each site on: how much it saves, and minus how many sites that takes.
    told = [(0, 0)] * (len(paying) + 1)
    taken = [False] * len(paying)
    for at in range(len(paying) - 1, -1, -1):
        rest = told[behind[at]]
        with_it = (rest[0] + paying[at][1], rest[1] - 1)
        taken[at] = with_it >= told[at + 1]
        told[at] = with_it if taken[at] else told[at + 1]
    places = []
    at = 0
    while at < len(paying):
        if taken[at]:
            places.append(paying[at][0])
        at = behind[at] if taken[at] else at + 1
    return tuple(places)


def _next_apart(sites, many):
    """For each site the index of the first later one that does not overlap with it."""
    behind = []
    later = 0
    for place, _ in sites:
        while later < len(sites) and (sites[later][0] <= place or _overlap(place, sites[later][0], many)):
            later += 1
        behind.append(later)
    return behind


def least_prices(sites, many):
    """A dict from places of lines to prices that cover all sites and are together what the best ones save."""
    prices = {}
    name = None
    for place, saved in sites:
        if place[0] != name:
            name = place[0]
            # What the best sites of this function save that lie ahead of an index, for each index up to the last.
            most = [0]
        most.extend([most[-1]] * (place[1] + many + 1 - len(most)))
        paid = most[place[1]] + saved - most[-1]
        if paid > 0:
            most[-1] += paid
            prices[(name, place[1] + many - 1)] = paid
    return prices


def saved_together(sites, places):
    """How much the sites at these places save together."""
    told = {place: saved for place, saved in sites}
    return sum([told[place] for place in places])
