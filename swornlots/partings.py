"""How two recipes part, and whether they are alike."""

from swornlots.errors import Unlike
from swornlots.maps import map_or_none, standings
from swornlots.pledges import standard_lots, standard_stock
from swornlots.ratios import ONE, ZERO, compare
from swornlots.worlds import World


def only_in_one(first, second):
    """The first thing that only one of two tuples has, or None."""
    for thing in (*first, *second):
        if (thing in first) != (thing in second):
            return thing
    return None


def unlike_share(first, second):
    """The first lot with different shares in two mixes of the same lots, and the greater share; or None."""
    for (lot, share), (_, other) in zip(first, second):
        side = compare(share, other)
        if side != 0:
            return (lot, share if side > 0 else other)
    return None


def all_of_second_farm(plant):
    """The shares of a lot that is all of the second farm."""
    return tuple([ONE if number == 1 else ZERO for number in range(len(plant.farms))])


def parting_claim(plant, lots, first, second):
    """A claim and a world for the lots in which it is true of one content and false of the other one; or None."""
    plain = World.plain(plant, lots)
    lot = only_in_one([lot for lot, _ in first[0]], [lot for lot, _ in second[0]])
    if lot is not None:
        _, shares, traits, _ = plain[lot]
        return (("until", 0), plain.changed((lot, shares, traits, 1)))
    told = unlike_share(first[0], second[0])
    if told is not None and len(plant.farms) > 1:
        lot, greater = told
        return (("least", greater, (plant.farms[1],)), plain.changed((lot, all_of_second_farm(plant), (), 0)))
    lot = only_in_one(first[1], second[1])
    if lot is not None and plant.traits:
        _, shares, _, day = plain[lot]
        return (("untouched", plant.traits[0]), plain.changed((lot, shares, plant.traits[:1], day)))
    return None


def parting_of_runs(first, second):
    """How two maps part that are None where a recipe cannot be run, as far as no contents are looked at; or None."""
    if first is None or second is None:
        return None if first is None and second is None else ("run", 1 if first is None else 0)
    if first.end != second.end:
        return ("end",)
    if len(first.boxes) != len(second.boxes):
        return ("boxes",)
    for number, ((amount, _), (other, _)) in enumerate(zip(first.boxes, second.boxes)):
        if amount != other:
            return ("amount", number)
    return None


def named_contents(plant, recipe, made):
    """Pairs of what a box or rest is called where recipes part on it, and its content on the standard stock."""
    lots, rests = standard_stock(plant, recipe, made.start)
    boxes, left = made.put_on((lots,), rests)
    result = [(("box", number), content) for number, content in enumerate(boxes)]
    for vessel, content in zip(made.end, left):
        if plant[vessel][1] > 0:
            result.append((("rest", vessel), content))
    return result


def parting_of_contents(plant, recipe, first, second):
    """How two maps with equal ends and amounts part, or None."""
    lots = standard_lots(plant, recipe, first.start)
    ours, theirs = named_contents(plant, recipe, first), named_contents(plant, recipe, second)
    for (name, content), (_, other) in zip(ours, theirs):
        found = parting_claim(plant, lots, content, other)
        if found is not None:
            return (*name, *found)
    return None


def check_slots(recipe, other):
    """Refuses recipes with different numbers of slots."""
    if len(recipe.slots) != len(other.slots):
        raise Unlike("slots")


def how_parted(plant, recipe, other, standing):
    """How recipes with equally many slots part at a standing, or None."""
    first, second = map_or_none(plant, recipe, standing), map_or_none(plant, other, standing)
    found = parting_of_runs(first, second)
    if found is not None or first is None:
        return found
    return parting_of_contents(plant, recipe, first, second)


def parting(plant, recipe, other, standing):
    """How two recipes part at a standing, or None."""
    check_slots(recipe, other)
    return how_parted(plant, recipe, other, standing)


def alike_recipes(plant, recipe, other):
    """Whether two recipes part at no standing."""
    check_slots(recipe, other)
    return all([how_parted(plant, recipe, other, standing) is None for standing in standings(plant)])
