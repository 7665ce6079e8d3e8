"""Dirts: which traits may be in and around the rests of the vessels."""

from swornlots.maps import map_or_none


def first_dirt(plant):
    """The dirt in which all vessels are clean."""
    return (None,) * len(plant)


def map_in(menu, entry, standing):
    """The map of an entry from a standing, or None if it cannot be run; the menu keeps it."""
    if (entry, standing) not in menu.known:
        menu.known[(entry, standing)] = map_or_none(menu.plant, menu[entry][0], standing)
    return menu.known[(entry, standing)]


def standing_of(plant, dirt):
    """The standing of the vessels that are not clean."""
    return tuple([name for name, told in zip(plant, dirt) if told is not None])


def runs_from(menu, dirt):
    """The entries that can be run in the dirt, ascending."""
    standing = standing_of(menu.plant, dirt)
    return tuple([entry for entry in range(len(menu)) if map_in(menu, entry, standing) is not None])


def traits_by_source(menu, entry, dirt):
    """A dict with the pair of the traits inside and around for each source of a run of the entry."""
    plant = menu.plant
    result = {}
    for slot, lacks in enumerate(menu[entry][1]):
        borne = tuple([trait for trait in plant.traits if trait not in lacks])
        result[("slot", 0, slot)] = (borne, borne)
    for name, told in zip(plant, dirt):
        if told is not None:
            result[("rest", name)] = told
    return result


def joined_traits(rows):
    """All traits in some tuples of traits, ascending."""
    return tuple(sorted({trait for row in rows for trait in row}))


def traits_of(make, sources):
    """The traits inside and around what is made of sources, by a dict of theirs."""
    mixed, touched = make
    inside = joined_traits([sources[source][0] for source, _ in mixed])
    return (inside, joined_traits([sources[source][1] for source in touched]))


def run_in(menu, entry, dirt):
    """The boxes of a run of the entry in the dirt, and the dirt behind it; or None if it cannot be run."""
    made = map_in(menu, entry, standing_of(menu.plant, dirt))
    if made is None:
        return None
    sources = traits_by_source(menu, entry, dirt)
    boxes = tuple([(amount, *traits_of(make, sources)) for amount, make in made.boxes])
    rests = {vessel: traits_of(make, sources) for vessel, make in made.rests}
    return (boxes, tuple([rests.get(name) for name in menu.plant]))


def dirts_behind(menu, dirt):
    """The dirts behind the runs that can be done in the dirt, by the entries."""
    return [run_in(menu, entry, dirt)[1] for entry in runs_from(menu, dirt)]


def dirts_reached(menu):
    """A list of all dirts that can be come to, those that need fewer runs first."""
    start = first_dirt(menu.plant)
    found = {start: True}
    latest = [start]
    while latest:
        coming = {}
        for dirt in latest:
            for behind in dirts_behind(menu, dirt):
                if behind not in found:
                    coming[behind] = True
        found.update(coming)
        latest = list(coming)
    return list(found)


def dirts(menu):
    """Generates all dirts that can be come to, those that need fewer runs first."""
    for dirt in dirts_reached(menu):
        yield dirt
