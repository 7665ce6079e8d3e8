"""Contents: what a thing is mixed of, and what has touched it."""

from swornlots.ratios import ONE, ZERO, plus, times

NOTHING = ((), ())


def blend(parts):
    """The content that comes of contents by their weights."""
    shares = {}
    lots = {}
    for weight, (mix, touched) in parts:
        for lot, share in mix:
            shares[lot] = plus(shares.get(lot, ZERO), times(weight, share))
        for lot in touched:
            lots[lot] = True
    mix = tuple([(lot, shares[lot]) for lot in sorted(shares) if shares[lot] != ZERO])
    return (mix, tuple(sorted(lots)))


def only(lot):
    """The content of a lot alone."""
    return (((lot, ONE),), (lot,))
