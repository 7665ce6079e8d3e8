"""Acts that are done in a house and taken back."""

from swornlots.errors import LotError
from swornlots.trials import Held


class WhatIf:
    """A context behind which the house is as it was at its beginning."""

    def __init__(self, house):
        self.house = house
        self.held = None

    def __enter__(self):
        # One WhatIf can be entered again inside of its own block.
        self.held = Held(self.house.record, self.held)
        return self.house

    def __exit__(self, kind, value, trace):
        self.house.record = self.held.moment
        self.held = self.held.before


def outcome_of(house, act):
    """The outcome of an act that is done in the house: "done", or the name of the class of its error."""
    try:
        house.act(act)
    except LotError as error:
        return error.class_name
    return "done"


def tried(house, acts):
    """The outcomes of acts, each done behind those before it; the house stays as it was."""
    with WhatIf(house) as same:
        return [outcome_of(same, act) for act in acts]
