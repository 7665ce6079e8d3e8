"""Whether some world makes formulas true: a world, or a closed tree that shows that there is none."""

from swornlots.errors import BadFormula
from swornlots.days import Ties, is_ring
from swornlots.formulas import check_formula, check_lots, is_atom, known, lots_of_atom
from swornlots.forms import is_whole_within
from swornlots.points import shuts_rows
from swornlots.proofs import Grower
from swornlots.ratios import ONE, ZERO, is_fraction, opposite, total
from swornlots.rows import MINUS_ONE, System, multiplied
from swornlots.searches import Search
from swornlots.spans import tie_told
from swornlots.worlds import World


def check_formulas(plant, lots, formulas):
    """Refuses the first of the formulas that is none, then the first lot in them that is not among the lots."""
    for formula in formulas:
        check_formula(plant, formula)
    for formula in formulas:
        check_lots(formula, lots)


def world_of(plant, lots, search):
    """A world for these lots by the answers of a search."""
    shares = search.limits.shares()
    traits = {}
    for literal in search.trail:
        atom = search.atoms[literal // 2]
        if atom[0] == "bears" and literal & 1 == 1:
            traits.setdefault(atom[1], []).append(atom[2])
    rows = []
    for lot in lots:
        told = [shares.get((lot, farm), ZERO) for farm in plant.farms[:-1]]
        rest = total([ONE, *[opposite(share) for share in told]])
        rows.append((lot, (*told, rest), tuple(sorted(traits.get(lot, []))), search.calendar.day_of(lot)))
    return World(plant, rows)


def world_or_tree(plant, lots, formulas):
    """A world for the lots that makes the formulas true, and None; or None, and a closed tree."""
    search = Search(plant.farms, formulas)
    proof = search.run()
    if proof is None:
        return (world_of(plant, lots, search), None)
    return (None, Grower(plant.farms, sorted(lots), search.atoms).grown(proof))


def find(plant, lots, formulas):
    """A world for the lots that makes the formulas true, or a closed tree."""
    check_formulas(plant, lots, formulas)
    world, tree = world_or_tree(plant, lots, formulas)
    return ("tree", tree) if world is None else ("world", world)


def lot_rows(plant, lots):
    """The rows of shares that all lots have."""
    result = []
    for lot in sorted(lots):
        unknowns = [(lot, farm) for farm in plant.farms]
        result.extend([(((unknown, MINUS_ONE),), "<=", ZERO) for unknown in unknowns])
        result.append((tuple([(unknown, ONE) for unknown in unknowns]), "=", ONE))
    return result


def share_row(atom, answer):
    """The row of a share atom with this answer."""
    _, parts, bound = atom
    if answer:
        return (multiplied(parts, MINUS_ONE), "<=", opposite(bound))
    return (parts, "<", bound)


def share_rows(asked):
    """The rows of the share atoms that were asked."""
    return [share_row(atom, answer) for atom, answer in asked if atom[0] == "share"]


def way_rows(plant, lots, asked):
    """The rows of a way, as a System."""
    for atom, _ in asked:
        if not is_atom(plant, atom):
            raise BadFormula(atom)
    for atom, _ in asked:
        check_lots(atom, lots)
    return System([*lot_rows(plant, lots), *share_rows(asked)])


def way_ties(asked):
    """The ties of a way, as Ties."""
    return Ties([tie_told(atom, answer) for atom, answer in asked if atom[0] == "days"])


class Checker:
    """What holds a tree against [24]: the case and the rows that each way begins with."""

    def __init__(self, plant, lots, formulas):
        self.plant = plant
        self.for_lots = lots
        self.for_formulas = formulas
        self.rows = lot_rows(plant, lots)

    def can_ask(self, atom, asked):
        """Whether the atom can be asked behind those that were."""
        if not is_atom(self.plant, atom) or any([atom == told for told, _ in asked]):
            return False
        return all([lot in self.for_lots for lot in lots_of_atom(atom)])

    def is_shut(self, word, told, asked):
        """Whether a leaf with the word shuts the way."""
        if word == "false":
            many = len(self.for_formulas)
            return is_whole_within(told, 0, many - 1) and known(self.for_formulas[told], asked) is False
        if word == "ring":
            return is_ring(way_ties(asked), told)
        if word != "prices" or not isinstance(told, tuple) or not all([is_fraction(price) for price in told]):
            return False
        return shuts_rows([*self.rows, *share_rows(asked)], told)

    def is_closed(self, tree):
        """Whether the tree, any value, is closed."""
        todo = [(tree, ())]
        while todo:
            told, asked = todo.pop()
            if not isinstance(told, tuple) or len(told) not in (2, 4):
                return False
            if len(told) == 4:
                word, atom, yes, no = told
                if word != "ask" or not self.can_ask(atom, asked):
                    return False
                todo.extend([(no, (*asked, (atom, False))), (yes, (*asked, (atom, True)))])
            elif not self.is_shut(told[0], told[1], asked):
                return False
        return True


def closed(plant, lots, formulas, tree):
    """Whether the tree is a closed tree for the lots and the formulas."""
    check_formulas(plant, lots, formulas)
    return Checker(plant, lots, formulas).is_closed(tree)
