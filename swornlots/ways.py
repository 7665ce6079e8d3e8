"""Ways of the stuff of a lot to a thing."""

from swornlots.errors import TooMany
from swornlots.forms import is_whole
from swornlots.ratios import ONE, opposite, plus, times
from swornlots.stocks import Stock
from swornlots.tracks import all_tracks, beginning, first_track, legs


def start_of(steps, way, thing):
    """The place where the opening had the stuff of a way that begins with 0."""
    if len(way) == 1:
        return thing
    return steps[way[1] - 1].source


def share_of(stock, steps, lot, thing, way):
    """The share that the stuff of the way has of the thing."""
    share, place = ONE, None
    numbers = set(way)
    if way[0] == 0:
        place = start_of(steps, way, thing)
        share = dict(beginning(stock).mix(place))[lot]
    for leg in steps:
        if leg.number in numbers:
            share = times(share, leg.weight)
            place = leg.target
        elif leg.target is not None and leg.target == place:
            share = times(share, plus(ONE, opposite(leg.weight)))
    return share


def ways(stock, lot, thing):
    """Generates the ways of a lot to a thing, each with its share, in order."""
    found = all_tracks(stock, lot, thing, False)
    if found is None:
        raise TooMany("way")
    steps = legs(stock)
    for way in found:
        yield (way, share_of(stock, steps, lot, thing, way))


def first_way(stock, lot, thing):
    """The first way of a lot to a thing, or None."""
    return first_track(stock, lot, thing, False)


def goes_on(leg, place):
    """Whether a way whose stuff is at the place, or nowhere yet, can have the number of the leg next."""
    return leg.target is not None and leg.source == place


def walked(plant, deeds, way):
    """The thing to which the way leads behind these deeds, or None."""
    if not all([is_whole(number) for number in way]):
        return None
    stock = Stock(plant)
    for deed in deeds:
        stock.do(deed)
    place, done = None, 0
    for leg in legs(stock):
        if done < len(way) and leg.number == way[done]:
            if not goes_on(leg, place):
                return None
            place, done = leg.target, done + 1
        elif place is not None and leg.source == place and leg.emptied:
            return None
    return place if done == len(way) else None
