"""Menus: recipes with what the lots of their slots surely lack; and plain claims, which only traits can break."""

from swornlots.claimforms import check_known
from swornlots.claims import check_claim
from swornlots.errors import BadMenu, Unplain
from swornlots.forms import is_whole_within
from swornlots.recipes import Recipe
from swornlots.worlds import are_traits

MOST_ENTRIES = 6
PLAIN_WORDS = ("free", "untouched", "and", "or")


def is_entry(plant, thing):
    """Whether the thing is a pair of a recipe and of what the lots of its slots lack."""
    if not isinstance(thing, tuple) or len(thing) != 2 or not isinstance(thing[0], Recipe):
        return False
    recipe, lacks = thing
    if not isinstance(lacks, tuple) or len(lacks) != len(recipe.slots):
        return False
    return all([are_traits(told, plant.traits) for told in lacks])


class Menu:
    """The entries that can be run in a plant, and the maps of their recipes as far as they are known."""

    def __init__(self, plant, entries):
        for number, entry in enumerate(entries[:MOST_ENTRIES]):
            if not is_entry(plant, entry):
                raise BadMenu(number)
        if not 1 <= len(entries) <= MOST_ENTRIES:
            raise BadMenu(min(len(entries), MOST_ENTRIES))
        self.plant = plant
        self.entries = tuple(entries)
        self.known = {}

    def __len__(self):
        return len(self.entries)

    def __iter__(self):
        return iter(self.entries)

    def __getitem__(self, at):
        if not is_whole_within(at, 0, len(self.entries) - 1):
            raise BadMenu(at)
        return self.entries[at]

    def __eq__(self, other):
        return isinstance(other, Menu) and self.plant == other.plant and self.entries == other.entries


def first_unplain(claim):
    """The first word in the claim that no plain claim has, or None."""
    if claim[0] not in PLAIN_WORDS:
        return claim[0]
    if claim[0] in ("and", "or"):
        word = first_unplain(claim[1])
        return first_unplain(claim[2]) if word is None else word
    return None


def check_plain(claim):
    """Refuses what is no claim, then what is no plain one."""
    check_claim(claim)
    word = first_unplain(claim)
    if word is not None:
        raise Unplain(word)


def check_plain_in(plant, claim):
    """Refuses what is no claim, then unknown names, then what is no plain claim."""
    check_claim(claim)
    check_known(plant, claim)
    check_plain(claim)


def is_true_by(claim, inside, around):
    """Whether a plain claim is true where only these traits may be inside and around."""
    word = claim[0]
    if word == "free":
        return claim[1] not in inside
    if word == "untouched":
        return claim[1] not in around
    first = is_true_by(claim[1], inside, around)
    second = is_true_by(claim[2], inside, around)
    return first and second if word == "and" else first or second


def can_break(plant, claim, inside, around):
    """Whether a box with these traits inside and around can break the plain claim."""
    check_plain_in(plant, claim)
    return not is_true_by(claim, inside, around)
