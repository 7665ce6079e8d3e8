"""Claims that are kept by recipes, whatever the lots and rests, and pledges of rests that hold up."""

from swornlots.cases import world_or_tree
from swornlots.claimforms import check_known, is_claim
from swornlots.claims import check_claim, formula_on
from swornlots.contents import NOTHING, only
from swornlots.errors import BadNeed, BadPledge, NoThing
from swornlots.forms import is_whole_within
from swornlots.maps import map_of, map_or_none, standings

HALF = (1, 2)


def is_claim_or_none(thing):
    """Whether the thing is a claim or None."""
    return thing is None or is_claim(thing)


def check_needs(recipe, needs):
    """Refuses the first need that cannot be, then too many or too few of them."""
    many = len(recipe.slots)
    for slot, need in enumerate(needs[:many]):
        if not is_claim_or_none(need):
            raise BadNeed(slot)
    if len(needs) != many:
        raise BadNeed(many)


def check_pledges(plant, pledges):
    """Refuses the first pledge that cannot be, then too many or too few of them."""
    for (name, _, keep), pledge in zip(plant.vessels, pledges):
        if not is_claim_or_none(pledge) or (keep == 0 and pledge is not None):
            raise BadPledge(name)
    if len(pledges) != len(plant):
        raise BadPledge(plant.vessel_names[-1])


def check_all_known(plant, claims):
    """Refuses the first name in the claims, some of which are None, that the plant does not have."""
    for claim in claims:
        if claim is not None:
            check_known(plant, claim)


def slot_lots(recipe):
    """The lots of the slots in the standard stock."""
    return tuple(["s" + str(k) for k in range(len(recipe.slots))])


def rest_lots(plant, vessel):
    """The lots of a vessel in the standard stock."""
    number = str(plant.vessel_names.index(vessel))
    return ("a" + number, "b" + number, "c" + number)


def rest_content(plant, vessel):
    """The content of a vessel in the standard stock."""
    lots = rest_lots(plant, vessel)
    mix, _ = NOTHING
    if plant[vessel][1] > 0:
        mix = tuple([(lot, HALF) for lot in lots[:2]])
    return (mix, lots)


def standard_stock(plant, recipe, standing):
    """The lots of the slots and the contents of the rests in the standard stock of a standing."""
    return (slot_lots(recipe), tuple([rest_content(plant, vessel) for vessel in standing]))


def standard_lots(plant, recipe, standing):
    """All lots of the standard stock of a standing."""
    return [*slot_lots(recipe), *[lot for vessel in standing for lot in rest_lots(plant, vessel)]]


class Office:
    """What is needed and pledged where a recipe is run from a standing, with its map."""

    def __init__(self, plant, recipe, made, needs, pledges):
        self.plant = plant
        self.recipe = recipe
        self.made = made
        self.needs = needs
        self.pledges = dict(zip(plant.vessel_names, pledges))

    def given(self):
        """The formulas of the needs, then those of the pledges of the vessels that rest."""
        told = [(only(lot), need) for lot, need in zip(slot_lots(self.recipe), self.needs)]
        told.extend([(rest_content(self.plant, vessel), self.pledges[vessel]) for vessel in self.made.start])
        return [formula_on(self.plant, content, claim) for content, claim in told if claim is not None]

    def contents(self):
        """The contents of the boxes, and a dict of those of the rests, that are made of the standard stock."""
        lots, rests = standard_stock(self.plant, self.recipe, self.made.start)
        boxes, left = self.made.put_on((lots,), rests)
        return (boxes, dict(zip(self.made.end, left)))

    def breaking(self, content, claim):
        """A world that shows that the claim is not kept on the content, and None; or None, and a closed tree."""
        lots = standard_lots(self.plant, self.recipe, self.made.start)
        formulas = [*self.given(), ("not", formula_on(self.plant, content, claim))]
        return world_or_tree(self.plant, lots, formulas)

    def judged(self, content, claim):
        """Whether the claim is kept on the content, with a closed tree, or broken, with a world."""
        world, tree = self.breaking(content, claim)
        return ("kept", tree) if world is None else ("broken", world)

    def broken_pledge(self):
        """The first vessel whose pledge is not kept, and a world that shows it; or None."""
        _, rests = self.contents()
        for vessel, content in rests.items():
            if self.pledges[vessel] is not None:
                world, _ = self.breaking(content, self.pledges[vessel])
                if world is not None:
                    return (vessel, world)
        return None


def office_for(plant, recipe, standing, needs, pledges, claim):
    """The office in which a claim is judged."""
    check_needs(recipe, needs)
    check_pledges(plant, pledges)
    check_claim(claim)
    check_all_known(plant, (*needs, *pledges, claim))
    return Office(plant, recipe, map_of(plant, recipe, standing), needs, pledges)


def judge_box(plant, recipe, standing, needs, pledges, box, claim):
    """Whether the claim is kept on a box of the recipe."""
    office = office_for(plant, recipe, standing, needs, pledges, claim)
    boxes, _ = office.contents()
    if not is_whole_within(box, 0, len(boxes) - 1):
        raise NoThing(box)
    return office.judged(boxes[box], claim)


def judge_rest(plant, recipe, standing, needs, pledges, vessel, claim):
    """Whether the claim is kept on a vessel that rests at the end."""
    office = office_for(plant, recipe, standing, needs, pledges, claim)
    _, rests = office.contents()
    if not isinstance(vessel, str) or vessel not in rests or plant[vessel][1] == 0:
        raise NoThing(vessel)
    return office.judged(rests[vessel], claim)


def hold_up(plant, recipes, needs, pledges):
    """None if the pledges hold up, otherwise the first recipe, standing and vessel where one does not, and a world."""
    for recipe, told in zip(recipes, needs):
        check_needs(recipe, told)
    check_pledges(plant, pledges)
    check_all_known(plant, [*[need for told in needs for need in told], *pledges])
    for number, (recipe, told) in enumerate(zip(recipes, needs)):
        for standing in standings(plant):
            made = map_or_none(plant, recipe, standing)
            if made is not None:
                broken = Office(plant, recipe, made, told, pledges).broken_pledge()
                if broken is not None:
                    return (number, standing, *broken)
    return None
