"""Least quarrels: formulas that no world makes true together, and none of which can be left out."""

from swornlots.proofs import leaves_of
from swornlots.searches import Search


def blamed(plant, formulas):
    """A dict of the numbers of formulas that show by themselves that no world makes all true; None if one does."""
    proof = Search(plant.farms, formulas).run()
    if proof is None:
        return None
    return {leaf.told: True for leaf in leaves_of(proof) if leaf.word == "false"}


def blamed_beside(plant, fixed, formulas, numbers):
    """Those of the numbers of formulas that are blamed together with the fixed ones; None if a world makes all true."""
    found = blamed(plant, [*fixed, *[formulas[number] for number in numbers]])
    if found is None:
        return None
    return [number for at, number in enumerate(numbers) if len(fixed) + at in found]


def least_quarrel(plant, lots, fixed, formulas):
    """The numbers of formulas of a least quarrel beside the fixed ones, or None.

    Whether there is a world does not depend on lots that no formula names, so all lots that can be there are.
    """
    rest = blamed_beside(plant, fixed, formulas, list(range(len(formulas))))
    if rest is None:
        return None
    needed = []
    while rest:
        number = rest[0]
        fewer = blamed_beside(plant, fixed, formulas, needed + rest[1:])
        if fewer is None:
            needed.append(number)
            rest = rest[1:]
        else:
            rest = [other for other in rest[1:] if other in fewer]
    return tuple(sorted(needed))
