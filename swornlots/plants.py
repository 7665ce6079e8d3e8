"""Plants: farms, traits and vessels."""

from swornlots.errors import BadPlant, NoThing
from swornlots.forms import is_name, is_whole_within

MOST_FARMS = 4
MOST_TRAITS = 4
MOST_VESSELS = 6
GREATEST_SIZE = 10000


def are_names(things, least, most):
    """Whether the things are different names, as many as told."""
    if not isinstance(things, (list, tuple)) or not least <= len(things) <= most:
        return False
    if not all([is_name(thing) for thing in things]):
        return False
    return len(set(things)) == len(things)


def is_vessel(thing):
    """Whether the thing is a triple of a name, a size and a keep."""
    if not isinstance(thing, tuple) or len(thing) != 3:
        return False
    name, size, keep = thing
    return is_name(name) and is_whole_within(size, 1, GREATEST_SIZE) and is_whole_within(keep, 0, size - 1)


def are_vessels(things):
    """Whether the things are vessels with different names, as many as a plant can have."""
    if not isinstance(things, (list, tuple)) or not all([is_vessel(thing) for thing in things]):
        return False
    return are_names([thing[0] for thing in things], 1, MOST_VESSELS)


class Plant:
    """A workshop: its farms, its traits, and its vessels in their order."""

    def __init__(self, farms, traits, vessels):
        if not are_names(farms, 1, MOST_FARMS):
            raise BadPlant("farms")
        if not are_names(traits, 0, MOST_TRAITS):
            raise BadPlant("traits")
        if not are_vessels(vessels):
            raise BadPlant("vessels")
        self.farms = tuple(sorted(farms))
        self.traits = tuple(sorted(traits))
        self.vessels = tuple(vessels)
        self.vessel_names = tuple([vessel[0] for vessel in vessels])

    def __getitem__(self, at):
        for name, size, keep in self.vessels:
            if name == at:
                return (size, keep)
        raise NoThing(at)

    def __contains__(self, x):
        return x in self.vessel_names

    def __iter__(self):
        return iter(self.vessel_names)

    def __len__(self):
        return len(self.vessel_names)

    def __eq__(self, other):
        return (isinstance(other, Plant) and self.farms == other.farms
                and self.traits == other.traits and self.vessels == other.vessels)
