"""Menus for the tests, and what [44] says of dirts, reckoned a second time with the maps of recipes."""

from cooking import plant_with, small_recipe
from swornlots.errors import LotError
from swornlots.maps import map_of
from swornlots.menus import Menu
from swornlots.recipes import Recipe

BOWLS = (("a", 100, 10), ("b", 60, 0))


def fill(vessel, slot="s", pack=5):
    """Steps by which a vessel is filled, a box is packed and the vessel rests."""
    return (("take", slot, vessel, 20), ("pack", vessel, pack), ("drain", vessel))


def pour(vessel, other, slot="s"):
    """Steps by which stuff of a vessel comes into another one and into a box."""
    return (("take", slot, vessel, 40), ("move", vessel, other, 20), ("pack", other, 5), ("drain", vessel), ("drain", other))


def standing_in(plant, dirt):
    return tuple(name for name, told in zip(plant, dirt) if told is not None)


def run_again(menu, entry, dirt):
    """What run_in tells, by the words of [44]."""
    plant = menu.plant
    recipe, lacks = list(menu)[entry]
    try:
        made = map_of(plant, recipe, standing_in(plant, dirt))
    except LotError:
        return None
    rests = dict(zip(plant, dirt))

    def may(source, place):
        if source[0] == "slot":
            return set(plant.traits) - set(lacks[source[2]])
        return set(rests[source[1]][place])

    def told(make):
        mixed, touched = make
        inside = {trait for source, share in mixed for trait in may(source, 0)}
        return (tuple(sorted(inside)), tuple(sorted({trait for source in touched for trait in may(source, 1)})))

    boxes = tuple((amount, *told(make)) for amount, make in made.boxes)
    after = {name: told(make) for name, make in made.rests}
    return (boxes, tuple(after.get(name) for name in plant))


def breaks(claim, inside, around):
    word = claim[0]
    if word == "free":
        return claim[1] in inside
    if word == "untouched":
        return claim[1] in around
    told = [breaks(part, inside, around) for part in claim[1:]]
    return any(told) if word == "and" else all(told)


def all_rows(menu, other=None):
    """All dirts that can be come to (or pairs of dirts), by a search over rows; each with the least row to it."""
    def behind(entry, dirt):
        told = run_again(menu, entry, dirt)
        return None if told is None else told[1]

    start = (None,) * len(menu.plant)
    rows, latest = {start: ()}, [()]
    ends = {(): start}
    while latest:
        longer = []
        for row in latest:
            for entry in range(len(menu)):
                after = behind(entry, ends[row])
                if after is not None and after not in rows:
                    rows[after] = (*row, entry)
                    ends[(*row, entry)] = after
                    longer.append((*row, entry))
        latest = sorted(longer)
    return rows


def random_menu(random, plant=None, most=4):
    plant = plant_with(BOWLS + ((("c", 50, 5),) if random.random() < 0.4 else ()), farms=random.randint(1, 2), traits=random.randint(0, 2)) if plant is None else plant
    entries = []
    for _ in range(random.randint(1, most)):
        slots = ("s", "t")[:random.randint(1, 2)]
        kind = random.random()
        vessels = list(plant)
        if kind < 0.35:
            recipe = Recipe(slots, fill(random.choice(vessels), random.choice(slots), random.randint(4, 5)))
        elif kind < 0.7:
            recipe = Recipe(slots, pour(*random.sample(vessels, 2), random.choice(slots)))
        elif kind < 0.8:
            recipe = Recipe(slots, (("wash", random.choice(vessels)),))
        else:
            recipe = small_recipe(random, plant, slots)
        lacks = tuple(tuple(trait for trait in plant.traits if random.random() < 0.5) for _ in slots)
        entries.append((recipe, lacks))
    return Menu(plant, entries)


def random_plain(random, plant, depth=2):
    if depth == 0 or random.random() < 0.4:
        return (random.choice(["free", "untouched"]), random.choice(plant.traits))
    return (random.choice(["and", "or"]), random_plain(random, plant, depth - 1), random_plain(random, plant, depth - 1))
