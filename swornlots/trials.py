"""Trials: deeds that are done and taken back."""

from swornlots.errors import LotError


class Held:
    """A moment to which a stock goes back, and the one that was held before it."""

    def __init__(self, moment, before):
        self.moment = moment
        self.before = before


class Trial:
    """A context behind which the stock is as it was at its beginning."""

    def __init__(self, stock):
        self.stock = stock
        self.held = None

    def __enter__(self):
        # One Trial can be entered again inside of its own block.
        self.held = Held(self.stock.moment, self.held)
        return self.stock

    def __exit__(self, kind, value, trace):
        self.stock.moment = self.held.moment
        self.held = self.held.before


def state_after(stock, deeds):
    """The state behind these deeds; the stock stays as it was."""
    with Trial(stock) as tried:
        for deed in deeds:
            tried.do(deed)
        return tried.state()


def outcome(stock, deeds):
    """The state behind these deeds, or the name of the class of the first error; the stock stays as it was."""
    try:
        return state_after(stock, deeds)
    except LotError as error:
        return error.class_name


def branches(stock, deeds, rows):
    """The outcomes of several rows of deeds behind the same deeds; the stock stays as it was."""
    with Trial(stock) as tried:
        for deed in deeds:
            tried.do(deed)
        return tuple([outcome(tried, row) for row in rows])
