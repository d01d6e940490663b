"""What is saved when texts that come again are called instead of being written."""

from foldlines.covers import Ground, cover_of, text_of_lines
from foldlines.lines import lines_size
from foldlines.packing import are_apart, best_places, least_prices, saved_together
from foldlines.repeats import repeated_stretches
from foldlines.stretches import text_reason
from foldlines.sweeping import require_swept
from foldlines.values import is_int, is_place


def cover(lines):
    """What a new function has for a text."""
    return cover_of(text_of_lines(lines))


def sites(program, lines):
    """A list of the sites of a text, each with what it saves."""
    require_swept(program)
    text = text_of_lines(lines)
    return Ground(program).sites_of(text)


def gain(program, lines):
    """What is gained by a text, its best sites, and prices that show that no others save more."""
    told = sites(program, lines)
    many = len(lines)
    places = best_places(told, many)
    return (_gain_at(told, places, lines), places, least_prices(told, many))


def _gain_at(told, places, text):
    """What is gained if a text with these sites is called at these places."""
    return saved_together(told, places) - lines_size(cover_of(tuple(text)))


def is_gain(program, lines, value):
    """Whether any value is a gain of a text, sites that do not overlap, and prices that fit together."""
    told = sites(program, lines)
    if not isinstance(value, tuple) or len(value) != 3:
        return False
    number, places, prices = value
    if not _are_sites(program, told, places, len(lines)) or not _are_prices(program, prices):
        return False
    if not all([_price_at(prices, place, len(lines)) >= saved for place, saved in told]):
        return False
    if sum([prices[place] for place in prices]) != saved_together(told, places):
        return False
    return is_int(number) and number == _gain_at(told, places, lines)


def _are_sites(program, told, value, many):
    """Whether any value is an ascending tuple of sites that do not overlap."""
    if not isinstance(value, tuple) or not all([is_place(program, place) for place in value]):
        return False
    site_places = {place: True for place, _ in told}
    return all([place in site_places for place in value]) and are_apart(value, many)


def _are_prices(program, value):
    """Whether any value is a dict from places to integers above 0."""
    if not isinstance(value, dict) or not all([is_place(program, place) for place in value]):
        return False
    return all([is_int(value[place]) and value[place] > 0 for place in value])


def _price_at(prices, place, many):
    """The prices together of so many lines from a place on."""
    return sum([prices.get((place[0], place[1] + at), 0) for at in range(many)])


def best(program):
    """The text with the greatest gain, and this gain; None if no text has one above 0."""
    require_swept(program)
    ground = Ground(program)
    found = None
    for places, many in repeated_stretches(program):
        name, first = places[0]
        text = program[name][first:first + many]
        if text_reason(text) is None:
            told = _rating(ground.sites_among(places, text), text)
            if told is not None and (found is None or told < found[0]):
                found = (told, text)
    return None if found is None else (found[1], -found[0][0])


def _rating(told, text):
    """A tuple that is the less the better a text with these sites is; None if it has no gain above 0."""
    least = lines_size(cover_of(text))
    # Most texts are left here, ahead of the longer way to their best sites.
    if sum([saved for _, saved in told if saved > 0]) <= least:
        return None
    places = best_places(told, len(text))
    number = saved_together(told, places) - least
    return (-number, -len(text), places[0]) if number > 0 else None
