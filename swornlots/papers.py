"""Papers: what they say of lots and samples, and which of them are in force."""

from swornlots.cases import check_formulas, world_or_tree
from swornlots.clauses import is_clause
from swornlots.days import is_tie
from swornlots.errors import BadPaper, NoPaper, NoThing, Quarrel, TooMany
from swornlots.formulas import (
    MOST_ATOMS, MOST_LEVELS, is_joined, is_share_atom, lots_in_turn, parts_of, room_behind, true_in,
)
from swornlots.forms import ascends, is_name, is_whole
from swornlots.quarrels import least_quarrel
from swornlots.ratios import ONE, compare, is_share, opposite
from swornlots.rows import MINUS_ONE, multiplied
from swornlots.worlds import World

MOST_PAPERS = 24

# What stands behind the first word of a paper.
FIELDS = {
    "least": ("lot", "farms", "share"),
    "most": ("lot", "farms", "share"),
    "bears": ("lot", "trait"),
    "lacks": ("lot", "trait"),
    "from": ("lot", "day"),
    "until": ("lot", "day"),
    "apart": ("tie", "tie", "tie"),
    "clear": ("sample", "trait"),
    "found": ("sample", "trait"),
    "measured": ("sample", "farms", "share", "share"),
    "row": ("parts", "bound"),
    "clause": ("clause",),
    "says": ("formula",),
}


def are_farms(plant, thing):
    """Whether the thing is an ascending tuple of one or more farms of the plant."""
    return isinstance(thing, tuple) and thing != () and all([farm in plant.farms for farm in thing]) and ascends(thing)


def is_clause_of(plant, thing):
    """Whether the thing is a clause with traits of the plant."""
    return is_clause(thing) and all([trait in plant.traits for (_, trait), _ in thing])


def has_hidden_share(formula, inside):
    """Whether a share atom stands inside of a `not` in the formula, or at all, if the formula itself is inside."""
    if not is_joined(formula):
        return inside and formula[0] == "share"
    below = inside or formula[0] == "not"
    return any([has_hidden_share(part, below) for part in parts_of(formula)])


def can_be_said(plant, thing):
    """Whether the thing is a formula without a share atom inside of a `not`."""
    return room_behind(plant, thing, MOST_LEVELS, MOST_ATOMS) >= 0 and not has_hidden_share(thing, False)


def fits_field(plant, field, thing):
    """Whether the thing can stand in a field by itself."""
    if field in ("lot", "sample"):
        return is_name(thing)
    if field == "farms":
        return are_farms(plant, thing)
    if field == "share":
        return is_share(thing)
    if field == "trait":
        return thing in plant.traits
    if field == "day":
        return is_whole(thing)
    if field == "clause":
        return is_clause_of(plant, thing)
    if field == "formula":
        return can_be_said(plant, thing)
    return True


def is_paper(plant, thing):
    """Whether the thing is a paper."""
    if not isinstance(thing, tuple) or not thing or not isinstance(thing[0], str) or thing[0] not in FIELDS:
        return False
    fields = FIELDS[thing[0]]
    if len(thing) != len(fields) + 1:
        return False
    if not all([fits_field(plant, field, told) for field, told in zip(fields, thing[1:])]):
        return False
    if thing[0] == "apart":
        return is_tie(thing[1:])
    if thing[0] == "measured":
        return compare(thing[3], thing[4]) <= 0
    return thing[0] != "row" or (thing[1] != () and is_share_atom(plant, ("share", *thing[1:])))


def names_in(paper):
    """A list of the names of lots, or of the sample, in the paper from left to right."""
    word = paper[0]
    if word == "apart":
        return [name for name in paper[1:3] if name != ""]
    if word == "row":
        return [lot for (lot, _), _ in paper[1]]
    if word == "clause":
        return [lot for (lot, _), _ in paper[1]]
    if word == "says":
        return lots_in_turn(paper[1])
    return [paper[1]]


def check_names(stock, paper):
    """Refuses the first name in the paper that the stock does not have."""
    there = stock.sample_names() if "sample" in FIELDS[paper[0]] else stock.lot_names()
    for name in names_in(paper):
        if name not in there:
            raise NoThing(name)


def bears(lot, trait, sense):
    """The formula that the lot bears the trait, or that it does not."""
    return ("bears", lot, trait) if sense else ("not", ("bears", lot, trait))


def at_most(parts, bound):
    """The atom that the value of the parts is at most the bound."""
    return ("share", multiplied(parts, MINUS_ONE), opposite(bound))


def mixed_parts(mix, farms):
    """The parts for the share of some farms in a mix."""
    return tuple([((lot, farm), share) for lot, share in mix for farm in farms])


def lot_formula(paper):
    """The formula of a paper that says one thing of one lot."""
    word, lot = paper[:2]
    if word in ("least", "most"):
        parts = mixed_parts(((lot, ONE),), paper[2])
        return ("share", parts, paper[3]) if word == "least" else at_most(parts, paper[3])
    if word == "from":
        return ("days", lot, "", -paper[2])
    if word == "until":
        return ("days", "", lot, paper[2])
    return bears(lot, paper[2], word == "bears")


def sample_formula(mix, paper):
    """The formula of a paper about a sample with this mix."""
    word, told = paper[0], paper[2]
    if word == "clear":
        return ("and", tuple([bears(lot, told, False) for lot, _ in mix]))
    if word == "found":
        return ("or", tuple([bears(lot, told, True) for lot, _ in mix]))
    parts = mixed_parts(mix, told)
    return ("and", (("share", parts, paper[3]), at_most(parts, paper[4])))


def formula_of(stock, paper):
    """The formula of the paper."""
    if not is_paper(stock.plant, paper):
        raise BadPaper(paper)
    check_names(stock, paper)
    word = paper[0]
    if "sample" in FIELDS[word]:
        return sample_formula(stock.mix(paper[1]), paper)
    if word == "apart":
        return ("days", *paper[1:])
    if word == "row":
        return ("share", *paper[1:])
    if word == "clause":
        return ("or", tuple([bears(lot, trait, sense) for (lot, trait), sense in paper[1]]))
    return paper[1] if word == "says" else lot_formula(paper)


class Papers:
    """The papers of a stock: sealed ones, and those in force by their numbers, each in a pair with its formula."""

    def __init__(self, stock):
        self.stock = stock
        self.old = ()
        self.valid = {}
        self.upcoming = 1

    @classmethod
    def opened(cls, stock, sealed, papers, next_number):
        """The papers of a stock that begin with these sealed ones and these in force."""
        result = cls(stock)
        result.old = tuple([(paper, formula_of(stock, paper)) for paper in sealed])
        result.valid = {number: (paper, formula_of(stock, paper)) for number, paper in papers}
        result.upcoming = next_number
        return result

    @property
    def sealed(self):
        """The sealed papers."""
        return tuple([paper for paper, _ in self.old])

    @property
    def next_number(self):
        """The number of the next paper that is put."""
        return self.upcoming

    def put(self, paper):
        """Puts a paper in force and tells its number."""
        formula = formula_of(self.stock, paper)
        if len(self.valid) >= MOST_PAPERS:
            raise TooMany("paper")
        number = self.upcoming
        self.enter(number, paper, formula)
        self.upcoming = number + 1
        return number

    def withdraw(self, number):
        """Takes a paper out of force."""
        self.check_number(number)
        self.valid = {other: told for other, told in self.valid.items() if other != number}

    def amend(self, number, paper):
        """Exchanges a paper that is in force."""
        self.check_number(number)
        self.enter(number, paper, formula_of(self.stock, paper))

    def check_number(self, number):
        """Refuses what is no number of a paper in force."""
        if not is_whole(number) or number not in self.valid:
            raise NoPaper(number)

    def enter(self, number, paper, formula):
        """Puts a paper under a number, unless it quarrels with the others."""
        after = {**self.valid, number: (paper, formula)}
        fixed = [told for _, told in self.old]
        quarrel = least_quarrel(self.stock.plant, self.lots_now(), fixed, [told for _, told in after.values()])
        if quarrel is not None:
            numbers = list(after)
            raise Quarrel(tuple(sorted([numbers[at] for at in quarrel])))
        self.valid = after

    def lots_now(self):
        """All lots of the stock, ascending."""
        return tuple(sorted(self.stock.lot_names()))

    def in_force(self):
        """Pairs of the numbers and the papers in force, ascending."""
        return tuple([(number, self.valid[number][0]) for number in sorted(self.valid)])

    def said(self):
        """A list of pairs of a paper and its formula: the sealed papers, then those in force."""
        return [*self.old, *[self.valid[number] for number in sorted(self.valid)]]

    def formulas(self):
        """The formulas of the sealed papers, then those of the papers in force."""
        return tuple([formula for _, formula in self.said()])

    def allowed(self):
        """An allowed world."""
        world, _ = self.settled()
        return world

    def settled(self, *formulas):
        """A world that makes the papers and these formulas true, and None; or None, and a closed tree."""
        return world_or_tree(self.stock.plant, self.lots_now(), [*self.formulas(), *formulas])

    def search(self, *formulas):
        """A world that makes the papers and these formulas true, or a closed tree."""
        check_formulas(self.stock.plant, self.lots_now(), formulas)
        world, tree = self.settled(*formulas)
        return ("tree", tree) if world is None else ("world", world)

    def __contains__(self, x):
        if not isinstance(x, World) or x.plant != self.stock.plant or x.lots != self.lots_now():
            return False
        return all([true_in(formula, x) for formula in self.formulas()])

    def copy_for(self, stock):
        """The same papers with a copy of their stock."""
        result = Papers(stock)
        result.old = self.old
        result.valid = dict(self.valid)
        result.upcoming = self.upcoming
        return result
