"""Stocks: the vessels of a plant, and the lots, boxes and samples that there are."""

from swornlots.errors import NoThing
from swornlots.moments import first_moment, moment_after, opened_moment, state_of
from swornlots.refusals import check_deed


def found(table, name):
    """What the table has under the name."""
    if not isinstance(name, str) or name not in table:
        raise NoThing(name)
    return table[name]


class Stock:
    """A stock of a plant. All that changes is its moment, which each deed exchanges."""

    def __init__(self, plant):
        self.plant = plant
        self.moment = first_moment(plant)
        self._opening = None

    @classmethod
    def opened(cls, plant, state):
        """A stock that begins with a state as its opening."""
        stock = cls(plant)
        stock.moment = opened_moment(plant, state)
        stock._opening = state
        return stock

    @property
    def deeds(self):
        """All deeds that were done."""
        return self.moment.done

    @property
    def opening(self):
        """The state with which the stock began, or None."""
        return self._opening

    def do(self, deed):
        """Does the deed and tells its number."""
        check_deed(self.moment, self.plant, deed)
        self.moment = moment_after(self.moment, self.plant, deed)
        return len(self.moment.done)

    def level(self, vessel):
        """The units in a vessel."""
        return found(self.moment.vessels, vessel)[0]

    def clean(self, vessel):
        """Whether nothing has touched the vessel since it was washed."""
        return found(self.moment.vessels, vessel)[1][1] == ()

    def amount(self, box):
        """The units in a box."""
        return found(self.moment.boxes, box)[0]

    def mix(self, thing):
        """The mix of a vessel, box or sample."""
        return self.content(thing)[0]

    def touched(self, thing):
        """The touched lots of a vessel, box or sample."""
        return self.content(thing)[1]

    def content(self, thing):
        """The mix and the touched lots of a vessel, box or sample."""
        content = self.moment.content(thing) if isinstance(thing, str) else None
        if content is None:
            raise NoThing(thing)
        return content

    def units(self, lot):
        """The units of a lot that were taken, thrown away and used up."""
        return found(self.moment.balance, lot)

    def lot_names(self):
        """The lots, in the order in which they were taken first."""
        return tuple(self.moment.balance)

    def box_names(self):
        """The boxes that are there, in the order of packing."""
        return tuple(self.moment.boxes)

    def sample_names(self):
        """The samples that are there, in the order of sampling."""
        return tuple(self.moment.samples)

    def __contains__(self, x):
        if not isinstance(x, str):
            return False
        now = self.moment
        return x in now.vessels or x in now.balance or x in now.boxes or x in now.samples

    def __eq__(self, other):
        return (isinstance(other, Stock) and self.plant == other.plant
                and self._opening == other._opening and self.moment.done == other.moment.done)

    def standing(self):
        """The vessels that rest, or None if some vessel is neither clean nor rests."""
        resting = []
        for name in self.plant:
            if self.clean(name):
                continue
            if self.level(name) != self.plant[name][1]:
                return None
            resting.append(name)
        return tuple(resting)

    def state(self):
        """The state: vessels, lots, boxes, samples and used names."""
        return state_of(self.moment)

    def copy(self):
        """A stock of its own that is as this one is now."""
        twin = Stock(self.plant)
        twin.moment = self.moment
        twin._opening = self._opening
        return twin
