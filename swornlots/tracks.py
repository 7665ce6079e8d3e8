"""Tracks: tuples of numbers of deeds along which a lot came to things, by its stuff (ways) or its touch (traces)."""

from swornlots.deeds import source_of, target_of
from swornlots.ratios import lowest
from swornlots.stocks import Stock

MOST_TRACKS = 400


class Leg:
    """What one deed means for ways and traces: whether its source, if it has one, is empty or untouched behind it."""

    def __init__(self, number, deed, weight, emptied, untouched):
        self.number = number
        self.deed = deed
        self.source = source_of(deed)
        self.target = target_of(deed)
        self.weight = weight
        self.emptied = emptied
        self.untouched = untouched


def amount_in(stock, thing):
    """The units in a place; a sample counts as one unit, and what is not there as none."""
    if thing in stock.plant:
        return stock.level(thing)
    if thing in stock.box_names():
        return stock.amount(thing)
    return 1 if thing in stock.sample_names() else 0


def is_untouched(stock, thing):
    """Whether a thing is gone or clean."""
    return thing not in stock or stock.touched(thing) == ()


def beginning(stock):
    """A stock as this one was before its deeds."""
    if stock.opening is None:
        return Stock(stock.plant)
    return Stock.opened(stock.plant, stock.opening)


def legs(stock):
    """A list with a leg for each deed of the stock."""
    now = beginning(stock)
    result = []
    for deed in stock.deeds:
        source, target = source_of(deed), target_of(deed)
        before = amount_in(now, target)
        number = now.do(deed)
        after = amount_in(now, target)
        # The share that what comes by this deed has of its target.
        weight = None if target is None else lowest(after - before, after)
        result.append(Leg(number, deed, weight, amount_in(now, source) == 0, is_untouched(now, source)))
    return result


def opening_tracks(stock, lot, touching):
    """The tracks that begin with the opening, by the things where it had the lot."""
    if stock.opening is None:
        return {}
    start = beginning(stock)
    result = {}
    for thing in (*start.plant, *start.box_names(), *start.sample_names()):
        if lot in (start.touched(thing) if touching else dict(start.mix(thing))):
            result[thing] = [(0,)]
    return result


def tracks_by_thing(stock, lot, touching, keep):
    """The tracks of a lot to each thing that is there, as far as `keep` keeps them in each list of them."""
    result = opening_tracks(stock, lot, touching)
    for leg in legs(stock):
        coming = [(*track, leg.number) for track in result.get(leg.source, [])]
        if leg.deed[0] == "take" and leg.deed[1] == lot:
            coming = [(leg.number,)]
        if leg.target is not None:
            result[leg.target] = keep(result.get(leg.target, []) + coming)
        if leg.source in result and (leg.untouched if touching else leg.emptied):
            del result[leg.source]
    return result


def track_order(track):
    """Tracks are ordered by their length, then as tuples."""
    return (len(track), track)


def keep_one_too_many(tracks):
    """Some of the tracks, so many that it shows if there are too many."""
    return tracks[:MOST_TRACKS + 1]


def keep_first(tracks):
    """The first one of the tracks, if there is one."""
    return sorted(tracks, key=track_order)[:1]


def all_tracks(stock, lot, thing, touching):
    """The tracks of a lot to a thing, in order, or None if there are too many."""
    check_lot_and_thing(stock, lot, thing)
    found = tracks_by_thing(stock, lot, touching, keep_one_too_many).get(thing, [])
    if len(found) > MOST_TRACKS:
        return None
    return sorted(found, key=track_order)


def first_track(stock, lot, thing, touching):
    """The first track of a lot to a thing, or None."""
    check_lot_and_thing(stock, lot, thing)
    found = tracks_by_thing(stock, lot, touching, keep_first).get(thing, [])
    return found[0] if found else None


def check_lot_and_thing(stock, lot, thing):
    """Refuses what is no lot that is there, then what is no thing that is there."""
    stock.units(lot)
    stock.content(thing)
