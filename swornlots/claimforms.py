"""The trees of claims: their forms and bounds, and the names in them."""

from swornlots.errors import NoClaim, Unknown
from swornlots.forms import ascends, is_name, is_whole_within
from swornlots.ratios import is_share

MOST_CLAIM_LEVELS = 12
MOST_PLAIN_CLAIMS = 24
LAST_DAY = 99999

# What stands behind the first word of a claim.
CLAIM_FIELDS = {
    "free": ("trait",),
    "untouched": ("trait",),
    "least": ("share", "farms"),
    "most": ("share", "farms"),
    "since": ("day",),
    "until": ("day",),
    "single": (),
    "not": ("claim",),
    "and": ("claim", "claim"),
    "or": ("claim", "claim"),
}
JOINING = ("not", "and", "or")


def are_farm_names(thing):
    """Whether the thing is an ascending tuple of one or more names."""
    return isinstance(thing, tuple) and thing != () and all([is_name(name) for name in thing]) and ascends(thing)


def fits_claim_field(field, thing):
    """Whether the thing can stand in a field by itself; a claim is looked at elsewhere."""
    if field == "trait":
        return is_name(thing)
    if field == "share":
        return is_share(thing)
    if field == "farms":
        return are_farm_names(thing)
    if field == "day":
        return is_whole_within(thing, 0, LAST_DAY)
    return True


def has_claim_form(thing):
    """Whether the thing has the form of a claim, whatever the claims in it are."""
    if not isinstance(thing, tuple) or not thing or not isinstance(thing[0], str) or thing[0] not in CLAIM_FIELDS:
        return False
    fields = CLAIM_FIELDS[thing[0]]
    if len(thing) != len(fields) + 1:
        return False
    return all([fits_claim_field(field, told) for field, told in zip(fields, thing[1:])])


def room_behind_claim(thing, levels, room):
    """How many of the first seven can come behind the thing, where so many could with it; below 0 for no claim."""
    if levels == 0 or not has_claim_form(thing):
        return -1
    if thing[0] not in JOINING:
        return room - 1
    for part in thing[1:]:
        room = room_behind_claim(part, levels - 1, room)
        if room < 0:
            return room
    return room


def is_claim(thing):
    """Whether the thing is a claim."""
    return room_behind_claim(thing, MOST_CLAIM_LEVELS, MOST_PLAIN_CLAIMS) >= 0


def check_claim_tree(tree):
    """Refuses what is no claim."""
    if not is_claim(tree):
        raise NoClaim(tree)


def named_in(claim):
    """A list of pairs of "trait" or "farm" and a name in the claim, from left to right."""
    word = claim[0]
    if word in ("free", "untouched"):
        return [("trait", claim[1])]
    if word in ("least", "most"):
        return [("farm", farm) for farm in claim[2]]
    if word in JOINING:
        return [told for part in claim[1:] for told in named_in(part)]
    return []


def unknown_in(plant, claim):
    """The first name in the claim that is no trait, or no farm, of the plant; or None."""
    for kind, name in named_in(claim):
        if name not in (plant.traits if kind == "trait" else plant.farms):
            return name
    return None


def check_known(plant, claim):
    """Refuses the first name in the claim that is no trait, or no farm, of the plant."""
    name = unknown_in(plant, claim)
    if name is not None:
        raise Unknown(name)
