"""Claims: what a box says of its content."""

from swornlots.claimforms import check_claim_tree, check_known
from swornlots.claimtexts import read_claim, write_claim
from swornlots.errors import NoLot
from swornlots.formulas import true_in
from swornlots.papers import at_most, bears, mixed_parts
from swornlots.ratios import ONE


def check_claim(tree):
    """Refuses what is no claim."""
    check_claim_tree(tree)


def no_lot_bears(lots, trait):
    """The formula that none of the lots bears the trait."""
    return ("and", tuple([bears(lot, trait, False) for lot in lots]))


def formula_on(plant, content, claim):
    """The formula of a claim, the names in which the plant has, on a content."""
    mix, touched = content
    word = claim[0]
    lots = [lot for lot, _ in mix]
    if word == "free":
        return no_lot_bears(lots, claim[1])
    if word == "untouched":
        return no_lot_bears(touched, claim[1])
    if word == "least":
        return ("share", mixed_parts(mix, claim[2]), claim[1])
    if word == "most":
        return at_most(mixed_parts(mix, claim[2]), claim[1])
    if word == "since":
        return ("and", tuple([("days", lot, "", -claim[1]) for lot in lots]))
    if word == "until":
        return ("and", tuple([("days", "", lot, claim[1]) for lot in lots]))
    if word == "single":
        return ("or", tuple([("share", mixed_parts(mix, (farm,)), ONE) for farm in plant.farms]))
    if word == "not":
        return ("not", formula_on(plant, content, claim[1]))
    return (word, (formula_on(plant, content, claim[1]), formula_on(plant, content, claim[2])))


def claim_formula(plant, content, claim):
    """The formula of a claim on a content."""
    check_claim(claim)
    check_known(plant, claim)
    return formula_on(plant, content, claim)


class Claim:
    """A claim that can be joined with others, and be asked of contents in worlds."""

    def __init__(self, tree):
        check_claim(tree)
        self.tree = tree

    @staticmethod
    def read(text):
        """The claim of a text."""
        return Claim(read_claim(text))

    @property
    def text(self):
        """The least text."""
        return write_claim(self.tree)

    def __and__(self, other):
        return Claim(("and", self.tree, other.tree))

    def __or__(self, other):
        return Claim(("or", self.tree, other.tree))

    def __invert__(self):
        return Claim(("not", self.tree))

    def __eq__(self, other):
        return isinstance(other, Claim) and self.tree == other.tree

    def __call__(self, plant, content, world):
        formula = claim_formula(plant, content, self.tree)
        for lot in content[1]:
            if lot not in world:
                raise NoLot(lot)
        return true_in(formula, world)
