"""Traces of the touch of a lot to a thing."""

from swornlots.errors import TooMany
from swornlots.tracks import all_tracks, first_track


def traces(stock, lot, thing):
    """Generates the traces of a lot to a thing, in order."""
    found = all_tracks(stock, lot, thing, True)
    if found is None:
        raise TooMany("trace")
    for trace in found:
        yield trace


def first_trace(stock, lot, thing):
    """The first trace of a lot to a thing, or None."""
    return first_track(stock, lot, thing, True)


def things_of(stock, lot):
    """The things whose mix has the lot, and those that it touched."""
    stock.units(lot)
    things = (*stock.plant, *stock.box_names(), *stock.sample_names())
    mixed = [thing for thing in things if lot in dict(stock.mix(thing))]
    touched = [thing for thing in things if lot in stock.touched(thing)]
    return (tuple(mixed), tuple(touched))
