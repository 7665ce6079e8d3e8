"""Questions about all allowed worlds: whether a formula is true, the ends of shares, the last and first days."""

from swornlots.cases import lot_rows, share_row
from swornlots.days import days_or_ring
from swornlots.ends import greatest_of_rows
from swornlots.errors import NoThing
from swornlots.formulas import atoms_in, check_formula, check_lots, is_true_atom, value_by
from swornlots.papers import at_most, mixed_parts
from swornlots.ratios import ZERO, opposite
from swornlots.rows import MINUS_ONE, multiplied
from swornlots.spans import tie_told
from swornlots.tables import least_from, steps_of
from swornlots.worlds import World


def answer(papers, formula):
    """Whether the formula is true in all allowed worlds, in none, or in some of them only."""
    check_formula(papers.stock.plant, formula)
    check_lots(formula, papers.lots_now())
    world, _ = papers.settled(("not", formula))
    if world is None:
        return "sure"
    world, _ = papers.settled(formula)
    return "never" if world is None else "open"


def answers_of(formulas, world):
    """A dict of the answers in the world for all atoms of the formulas, but those that shares are too little.

    No share atom stands inside of a `not` in the formula of a paper, so such an answer makes none of them true.
    """
    result = {atom: is_true_atom(atom, world) for formula in formulas for atom in atoms_in(formula)}
    return {atom: told for atom, told in result.items() if told or atom[0] != "share"}


def without_spare(formulas, answers, atoms):
    """The answers without those of the given atoms, as far as the formulas are true by the others."""
    for atom in atoms:
        fewer = {other: told for other, told in answers.items() if other != atom}
        if all([value_by(formula, fewer) for formula in formulas]):
            answers = fewer
    return answers


def raised(papers, world, parts):
    """The greatest value of the parts where what papers need in the world stays true, and a world that reaches it."""
    plant, formulas = papers.stock.plant, papers.formulas()
    base = lot_rows(plant, world.lots)
    answers = answers_of(formulas, world)
    while True:
        atoms = [atom for atom in answers if atom[0] == "share"]
        end = greatest_of_rows([*base, *[share_row(atom, True) for atom in atoms]], parts)
        priced = [atom for atom, price in zip(atoms, end.prices[len(base):]) if price != ZERO]
        fewer = without_spare(formulas, answers, priced)
        if len(fewer) == len(answers):
            return (end.value, with_shares(world, dict(end.point)))
        answers = fewer


def with_shares(world, shares):
    """The world with other shares, from a dict by the unknowns."""
    plant = world.plant
    rows = [(lot, tuple([shares[(lot, farm)] for farm in plant.farms]), traits, day)
            for lot, _, traits, day in world.rows]
    return World(plant, rows)


def greatest_value(papers, parts):
    """The greatest value of the parts, an allowed world that reaches it, and a closed tree that shows it."""
    world = papers.allowed()
    while True:
        value, reaching = raised(papers, world, parts)
        world, tree = papers.settled(("not", at_most(parts, value)))
        if world is None:
            return (value, reaching, tree)


def greatest_share(papers, content, farms):
    """The greatest share of some farms in a content, an allowed world and a closed tree."""
    return greatest_value(papers, mixed_parts(content[0], farms))


def least_share(papers, content, farms):
    """The least share of some farms in a content, an allowed world and a closed tree."""
    value, world, tree = greatest_value(papers, multiplied(mixed_parts(content[0], farms), MINUS_ONE))
    return (opposite(value), world, tree)


def turned_ties(answers, sign):
    """The ties of the answers; for the sign -1 those of days that count backwards."""
    ties = [tie_told(atom, told) for atom, told in answers.items() if atom[0] == "days"]
    if sign > 0:
        return ties
    return [(second, first, n) for first, second, n in ties]


def days_in(world, sign):
    """A dict of the days of the world and of day 0; for the sign -1 they count backwards."""
    return {"": 0, **{lot: sign * day for lot, _, _, day in world.rows}}


def is_tight(tie, told):
    """Whether a tie is one of those that come to the least sums, by a dict of these."""
    first, second, n = tie
    return first in told and told[second] == told[first] + n


def latest(papers, world, lot, sign):
    """The last day of the lot where what papers need in the world stays true, or None; and a world that has it."""
    formulas, days = papers.formulas(), days_in(world, sign)
    answers = answers_of(formulas, world)
    while True:
        ties = turned_ties(answers, sign)
        told = least_from(steps_of(ties), days, "")
        if lot not in told:
            return (None, None)
        atoms = [atom for atom in answers if atom[0] == "days"]
        tight = [atom for atom, tie in zip(atoms, ties) if is_tight(tie, told)]
        fewer = without_spare(formulas, answers, tight)
        if len(fewer) == len(answers):
            return (told[lot], with_day(world, ties, lot, told[lot], sign))
        answers = fewer


def with_day(world, ties, lot, day, sign):
    """The world with days that keep the ties, in which the lot has this day."""
    days, _ = days_or_ring([*ties, (lot, "", -day)])
    rows = [(name, shares, traits, sign * (days[name] - days[""]) if name in days else old)
            for name, shares, traits, old in world.rows]
    return World(world.plant, rows)


def end_of_days(papers, lot, sign):
    """The last day of the lot, for the sign -1 the first one, with an allowed world that has it."""
    if lot not in papers.stock.lot_names():
        raise NoThing(lot)
    world = papers.allowed()
    while True:
        day, reaching = latest(papers, world, lot, sign)
        if day is None:
            return (None, None)
        names = ("", lot) if sign > 0 else (lot, "")
        world, _ = papers.settled(("not", ("days", *names, day)))
        if world is None:
            return (sign * day, reaching)


def last_day(papers, lot):
    """The last day of the lot with an allowed world, or None and None if it has ever greater ones."""
    return end_of_days(papers, lot, 1)


def first_day(papers, lot):
    """The first day of the lot with an allowed world, or None and None if it has ever lesser ones."""
    return end_of_days(papers, lot, -1)
