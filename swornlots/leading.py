"""Claims that lead to others, whatever the contents and the worlds."""

from swornlots.cases import world_or_tree
from swornlots.claimforms import check_known
from swornlots.claims import check_claim, formula_on

# The standard contents 1 to 4.
CONTENTS = (
    ((("a", (1, 1)),), ("a",)),
    ((("a", (1, 1)),), ("a", "b")),
    ((("a", (1, 2)), ("b", (1, 2))), ("a", "b")),
    ((("a", (1, 2)), ("b", (1, 2))), ("a", "b", "c")),
)


def standard(number):
    """The standard content of this number, from 1 to 4."""
    return CONTENTS[number - 1]


def check_claims(plant, claims):
    """Refuses the first of the claims that is none, then the first name that the plant does not have."""
    for claim in claims:
        check_claim(claim)
    for claim in claims:
        check_known(plant, claim)


def parting_on(plant, content, first, second):
    """A world for a content in which the first claim is true and the second one false, and None; or None and a tree."""
    formulas = [formula_on(plant, content, first), ("not", formula_on(plant, content, second))]
    return world_or_tree(plant, content[1], formulas)


def does_lead(plant, first, second):
    """Whether the first claim leads to the second one."""
    world, _ = parting_on(plant, standard(len(CONTENTS)), first, second)
    return world is None


def leads(plant, first, second):
    """A closed tree that shows that the first claim leads to the second one, or the least content that parts them."""
    check_claims(plant, (first, second))
    world, last_tree = parting_on(plant, standard(len(CONTENTS)), first, second)
    if world is None:
        return ("tree", last_tree)
    trees = []
    for number in range(1, len(CONTENTS)):
        lesser, tree = parting_on(plant, standard(number), first, second)
        if lesser is not None:
            return ("world", number, lesser, tuple(trees))
        trees.append(tree)
    return ("world", len(CONTENTS), world, tuple(trees))


def alike(plant, first, second):
    """Whether each of two claims leads to the other one."""
    check_claims(plant, (first, second))
    return does_lead(plant, first, second) and does_lead(plant, second, first)


def order(plant, claims):
    """For each of the claims the numbers of those to which it leads."""
    check_claims(plant, claims)
    return tuple([
        tuple([number for number, second in enumerate(claims) if does_lead(plant, first, second)])
        for first in claims
    ])
