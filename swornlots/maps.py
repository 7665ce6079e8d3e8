"""Maps of recipes: where the stuff of boxes and rests comes from."""

from swornlots.contents import blend, only
from swornlots.errors import LotError, Unlike, Unrested
from swornlots.ratios import ONE, ZERO, plus, times
from swornlots.refusals import MOST_BOXES
from swornlots.stocks import Stock

FIRST_NUMBER = 100


def fresh_names(plant, many):
    """So many ascending names that no vessel has."""
    last = FIRST_NUMBER + many + len(plant)
    names = ["x" + str(number) for number in range(FIRST_NUMBER, last)]
    return [name for name in names if name not in plant][:many]


def standings(plant):
    """All standings of the plant, in their order."""
    found = [()]
    for number in range(len(plant)):
        found = [*found, *[(*told, number) for told in found]]
    ordered = sorted([(len(told), told) for told in found])
    return tuple([tuple([plant.vessel_names[number] for number in told]) for _, told in ordered])


def rested_stock(plant, lots):
    """A stock in which the vessels rest that a dict has, each with its lot alone."""
    vessels = []
    units = []
    for name, _, keep in plant.vessels:
        if name not in lots:
            vessels.append((0, (), ()))
            continue
        mix, touched = only(lots[name])
        vessels.append((keep, mix if keep > 0 else (), touched))
        units.append((lots[name], (keep, 1), ZERO, ZERO))
    names = tuple(sorted(lots.values()))
    return Stock.opened(plant, (tuple(vessels), tuple(units), (), (), names))


def rank(source, places):
    """Sources are ordered by this: slots by their runs and numbers, then rests as their vessels stand in the plant."""
    if source[0] == "slot":
        return (0, source[1], source[2])
    return (1, places.index(source[1]), 0)


def in_order(sources, places):
    """A list of the sources of a dict, in their order."""
    return [source for _, source in sorted([(rank(source, places), source) for source in sources])]


def replaced(make, before, places):
    """The make in which a dict tells the make of each source."""
    shares = {}
    touched = {}
    for source, share in make[0]:
        for told, part in before[source][0]:
            shares[told] = plus(shares.get(told, ZERO), times(share, part))
    for source in make[1]:
        for told in before[source][1]:
            touched[told] = True
    mixed = tuple([(told, shares[told]) for told in in_order(shares, places)])
    return (mixed, tuple(in_order(touched, places)))


def put_upon(make, contents):
    """The content that comes of a make by a dict of the contents of sources."""
    mixed, touched = make
    shares = dict(mixed)
    return blend([(shares.get(source, ZERO), contents[source]) for source in touched])


class Map:
    """What a row of runs makes: boxes with their amounts and rests, each with the shares and touch of its sources."""

    def __init__(self, places, start, end, runs, boxes, rests):
        self.places = places
        self.start = start
        self.end = end
        self.runs = runs
        self.boxes = boxes
        self.rests = rests

    def __eq__(self, other):
        return (isinstance(other, Map) and self.start == other.start and self.end == other.end
                and self.runs == other.runs and self.boxes == other.boxes and self.rests == other.rests)

    def __mul__(self, other):
        if not isinstance(other, Map):
            return NotImplemented
        for vessel in self.places:
            if (vessel in self.end) != (vessel in other.start):
                raise Unlike(vessel)
        before = makes_before(self, other)
        boxes = [(amount, replaced(make, before, self.places)) for amount, make in other.boxes]
        rests = [(vessel, replaced(make, before, self.places)) for vessel, make in other.rests]
        runs = self.runs + other.runs
        return Map(self.places, self.start, other.end, runs, (*self.boxes, *boxes), tuple(rests))

    def put_on(self, lots, rests):
        """The contents of the boxes and of the rests, where it is put upon these lots and rests."""
        contents = {("slot", run, k): only(lot) for run, names in enumerate(lots) for k, lot in enumerate(names)}
        for vessel, content in zip(self.start, rests):
            contents[("rest", vessel)] = content
        boxes = tuple([put_upon(make, contents) for _, make in self.boxes])
        return (boxes, tuple([put_upon(make, contents) for _, make in self.rests]))


def sources_of(made):
    """All sources in a map."""
    return [source for _, (_, touched) in (*made.boxes, *made.rests) for source in touched]


def makes_before(first, second):
    """A dict of the makes that the sources of the second map have behind the first one."""
    rests = dict(first.rests)
    result = {}
    for source in sources_of(second):
        if source[0] == "rest":
            result[source] = rests[source[1]]
        else:
            _, run, k = source
            moved = ("slot", first.runs + run, k)
            result[source] = (((moved, ONE),), (moved,))
    return result


def make_of(content, sources):
    """The make of a content whose lots stand for sources and ascend as these."""
    mix, touched = content
    return (tuple([(sources[lot], share) for lot, share in mix]), tuple([sources[lot] for lot in touched]))


def check_stands(stock):
    """Refuses the first vessel that is neither clean nor rests."""
    for name in stock.plant:
        if not stock.clean(name) and stock.level(name) != stock.plant[name][1]:
            raise Unrested(name)


def map_of(plant, recipe, standing):
    """The map of a run of the recipe from a standing."""
    many = len(recipe.slots)
    names = fresh_names(plant, many + len(standing) + MOST_BOXES + 1)
    slots, rests = names[:many], names[many:many + len(standing)]
    stock = rested_stock(plant, dict(zip(standing, rests)))
    # One box more than a stock can have is enough.
    recipe(stock, tuple(slots), tuple(names[many + len(standing):]))
    check_stands(stock)
    sources = {lot: ("slot", 0, k) for k, lot in enumerate(slots)}
    sources.update({lot: ("rest", vessel) for lot, vessel in zip(rests, standing)})
    end = stock.standing()
    boxes = tuple([(stock.amount(box), make_of(stock.content(box), sources)) for box in stock.box_names()])
    made = tuple([(vessel, make_of(stock.content(vessel), sources)) for vessel in end])
    return Map(plant.vessel_names, standing, end, 1, boxes, made)


def map_or_none(plant, recipe, standing):
    """The map of a run of the recipe from a standing, or None if it cannot be run."""
    try:
        return map_of(plant, recipe, standing)
    except LotError:
        return None


def can_run(plant, recipe, standing):
    """Whether the recipe can be run from a standing."""
    return map_or_none(plant, recipe, standing) is not None
