"""Formulas about worlds: atoms joined by `not`, `and` and `or`."""

from swornlots.days import is_tie, keeps_tie
from swornlots.errors import BadFormula, NoLot
from swornlots.forms import is_name
from swornlots.ratios import ZERO, compare, is_fraction, plus, times
from swornlots.rows import is_parts

MOST_LEVELS = 20
MOST_ATOMS = 600
JOINTS = ("and", "or")


def is_share_atom(plant, thing):
    """Whether the thing is an atom about shares, if its word is."""
    if len(thing) != 3 or not is_parts(thing[1]) or not is_fraction(thing[2]):
        return False
    return all([farm in plant.farms for (_, farm), _ in thing[1]])


def is_atom(plant, thing):
    """Whether the thing is an atom."""
    if not isinstance(thing, tuple) or not thing:
        return False
    if thing[0] == "share":
        return is_share_atom(plant, thing)
    if thing[0] == "bears":
        return len(thing) == 3 and is_name(thing[1]) and thing[2] in plant.traits
    return thing[0] == "days" and is_tie(thing[1:])


def parts_of(formula):
    """The formulas that a joined formula is made of."""
    return (formula[1],) if formula[0] == "not" else formula[1]


def is_joined(thing):
    """Whether the thing has the form of a joined formula, whatever it is made of."""
    if not isinstance(thing, tuple) or len(thing) != 2:
        return False
    return thing[0] == "not" or (thing[0] in JOINTS and isinstance(thing[1], tuple))


def room_behind(plant, thing, levels, room):
    """How many atoms can come behind the thing, where so many could with it; below 0 if it is no formula there."""
    if levels == 0:
        return -1
    if not is_joined(thing):
        return room - 1 if is_atom(plant, thing) else -1
    for part in parts_of(thing):
        room = room_behind(plant, part, levels - 1, room)
        if room < 0:
            return room
    return room


def check_formula(plant, formula):
    """Refuses what is no formula."""
    if room_behind(plant, formula, MOST_LEVELS, MOST_ATOMS) < 0:
        raise BadFormula(formula)


def atoms_in(formula):
    """A list of all atoms in the formula from left to right."""
    if not is_joined(formula):
        return [formula]
    return [atom for part in parts_of(formula) for atom in atoms_in(part)]


def atoms_of(formula):
    """The different atoms, in the order in which they first stand in the formula."""
    return tuple({atom: True for atom in atoms_in(formula)})


def lots_of_atom(atom):
    """A list of the lots in the atom from left to right."""
    if atom[0] == "share":
        return [lot for (lot, _), _ in atom[1]]
    if atom[0] == "bears":
        return [atom[1]]
    return [name for name in atom[1:3] if name != ""]


def lots_in_turn(formula):
    """A list of all lots in the formula from left to right."""
    return [lot for atom in atoms_in(formula) for lot in lots_of_atom(atom)]


def lots_of(formula):
    """The lots in the formula, ascending."""
    return tuple(sorted(set(lots_in_turn(formula))))


def check_lots(formula, lots):
    """Refuses the first lot in the formula that is not among the lots."""
    for lot in lots_in_turn(formula):
        if lot not in lots:
            raise NoLot(lot)


def is_true_atom(atom, world):
    """Whether the atom is true in a world that has its lots."""
    if atom[0] == "share":
        value = ZERO
        for (lot, farm), fraction in atom[1]:
            value = plus(value, times(fraction, world.share(lot, farm)))
        return compare(value, atom[2]) >= 0
    if atom[0] == "bears":
        return world.bears(atom[1], atom[2])
    return keeps_tie(atom[1:], {lot: world.day(lot) for lot in lots_of_atom(atom)})


def true_in(formula, world):
    """Whether the formula is true in the world."""
    check_lots(formula, world.lots)
    answers = {atom: is_true_atom(atom, world) for atom in atoms_in(formula)}
    return value_by(formula, answers)


def known(formula, answers):
    """Whether the formula is true by the answers alone; None if they leave it open."""
    return value_by(formula, dict(answers))


def value_by(formula, answers):
    """The same by a dict of answers."""
    if not is_joined(formula):
        return answers.get(formula)
    values = [value_by(part, answers) for part in parts_of(formula)]
    if formula[0] == "not":
        return None if values[0] is None else not values[0]
    deciding = formula[0] == "or"
    if deciding in values:
        return deciding
    return None if None in values else not deciding
