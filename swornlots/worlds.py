"""Worlds: what nobody knows of lots, their shares, their traits and their days."""

from swornlots.errors import BadWorld, NoLot
from swornlots.forms import ascends, is_name, is_whole
from swornlots.ratios import ONE, ZERO, is_share, total


def are_shares(thing, many):
    """Whether the thing is a tuple of so many shares that come to 1."""
    if not isinstance(thing, tuple) or len(thing) != many:
        return False
    return all([is_share(share) for share in thing]) and total(thing) == ONE


def are_traits(thing, traits):
    """Whether the thing is an ascending tuple of some of the traits."""
    return isinstance(thing, tuple) and all([trait in traits for trait in thing]) and ascends(thing)


def is_world_row(plant, thing):
    """Whether the thing is a row of a world of the plant."""
    if not isinstance(thing, tuple) or len(thing) != 4:
        return False
    lot, shares, traits, day = thing
    if not is_name(lot) or not are_shares(shares, len(plant.farms)):
        return False
    return are_traits(traits, plant.traits) and is_whole(day)


class World:
    """The shares, traits and days of some lots."""

    def __init__(self, plant, rows):
        told = {}
        for place, row in enumerate(rows):
            if not is_world_row(plant, row) or row[0] in told:
                raise BadWorld(place)
            told[row[0]] = row
        self.plant = plant
        self.names = tuple(sorted(told))
        self.rows = tuple([told[lot] for lot in self.names])
        self.row_of = told

    @classmethod
    def plain(cls, plant, lots):
        """A world in which all lots are of the first farm, without traits, of the day 0."""
        shares = (ONE,) + (ZERO,) * (len(plant.farms) - 1)
        return cls(plant, [(lot, shares, (), 0) for lot in lots])

    @property
    def lots(self):
        """The lots, ascending."""
        return self.names

    def __getitem__(self, at):
        if at not in self.names:
            raise NoLot(at)
        return self.row_of[at]

    def share(self, lot, farm):
        """The share of the farm in the lot."""
        return self[lot][1][self.plant.farms.index(farm)]

    def bears(self, lot, trait):
        """Whether the lot bears the trait."""
        return trait in self[lot][2]

    def day(self, lot):
        """The day of the lot."""
        return self[lot][3]

    def __iter__(self):
        return iter(self.names)

    def __len__(self):
        return len(self.names)

    def __contains__(self, x):
        return x in self.names

    def __eq__(self, other):
        return isinstance(other, World) and self.plant == other.plant and self.rows == other.rows

    def changed(self, row):
        """A world with this row in place of that for the same lot."""
        if not is_world_row(self.plant, row):
            raise BadWorld(0)
        return World(self.plant, [*[told for told in self.rows if told[0] != row[0]], row])
