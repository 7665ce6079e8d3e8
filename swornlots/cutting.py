"""Houses that are cut short: what is gone is left out, and papers are sealed that tell the same of what stays."""

from swornlots.cases import lot_rows, share_row
from swornlots.days import days_or_ring
from swornlots.formulas import lots_in_turn
from swornlots.houses import House
from swornlots.leaning import lean_rows
from swornlots.masks import without_marks
from swornlots.ratios import opposite
from swornlots.rows import MINUS_ONE, multiplied
from swornlots.shadows import rows_without
from swornlots.tables import lean_rows_of_ties, least_between, ties_between


def bound_lots(papers):
    """All lots in the formulas of `says` papers."""
    return [lot for paper, formula in papers.said() if paper[0] == "says" for lot in lots_in_turn(formula)]


def living(house):
    """The names of all living things, and the lots that stay."""
    stock = house.record.stock
    things = (*house.plant, *stock.box_names(), *stock.sample_names())
    touched = [lot for thing in things for lot in stock.touched(thing)]
    return (things, tuple(sorted(set([*touched, *bound_lots(house.record.papers)]))))


def dropped(house):
    """The lots that a cut drops, ascending."""
    _, staying = living(house)
    return tuple([lot for lot in house.record.papers.lots_now() if lot not in staying])


def plain_formulas(papers):
    """The formulas of all papers but `says` ones, where each `and` is taken apart."""
    result = []
    for paper, formula in papers.said():
        if paper[0] != "says":
            result.extend(formula[1] if formula[0] == "and" else [formula])
    return result


def lots_of_row(row):
    """A list of the lots in a row of shares."""
    return [lot for (lot, _), _ in row[0]]


def is_about(row, lots):
    """Whether a row has one of the lots."""
    return any([lot in lots for lot in lots_of_row(row)])


def lots_beside(rows, lots):
    """The lots, and all others that rows tie to them, however far round."""
    found = {lot: True for lot in lots}
    many = -1
    while many < len(found):
        many = len(found)
        for row in rows:
            if is_about(row, found):
                found.update({lot: True for lot in lots_of_row(row)})
    return found


def rows_for(plant, rows, staying, leaving):
    """Rows of the lots that stay which tell the same of their shares as the rows do of all lots."""
    linked = lots_beside(rows, staying)
    # Of lots that nothing ties to those that stay, nothing is left to say.
    going = [lot for lot in leaving if lot in linked]
    beside = lots_beside(rows, going)
    names = [(lot, farm) for lot in going for farm in plant.farms]
    tied = [row for row in rows if is_about(row, beside)]
    left = rows_without([*lot_rows(plant, list(beside)), *tied], names)
    free = [row for row in rows if is_about(row, linked) and not is_about(row, beside)]
    base = lot_rows(plant, staying)
    return lean_rows([row for row in [*free, *left] if row not in base], base)


def row_papers(plant, formulas, staying, leaving):
    """The sealed papers about shares."""
    rows = [share_row(formula, True) for formula in formulas if formula[0] == "share"]
    told = rows_for(plant, rows, staying, leaving)
    return [("row", multiplied(parts, MINUS_ONE), opposite(bound)) for parts, _, bound in told]


def sensed_marks(formula):
    """The pairs of a mark and a sense of a formula about traits."""
    if formula[0] == "bears":
        return [(formula[1:], True)]
    if formula[0] == "not":
        return [(formula[1][1:], False)]
    return [pair for part in formula[1] for pair in sensed_marks(part)]


def mask_of(pairs, bits):
    """The pair of integers of a clause, by a dict of the bits of marks."""
    yes, no = 0, 0
    for mark, sense in pairs:
        if sense:
            yes = yes | bits[mark]
        else:
            no = no | bits[mark]
    return (yes, no)


def clause_of(row, bits):
    """The clause of a pair of integers."""
    yes, no = row
    told = [(mark, bool(yes & bits[mark])) for mark in sorted(bits) if (yes | no) & bits[mark]]
    return tuple(told)


def clause_papers(formulas, leaving):
    """The sealed papers about traits."""
    told = [sensed_marks(formula) for formula in formulas if formula[0] not in ("share", "days")]
    marks = sorted({mark for pairs in told for mark, _ in pairs})
    bits = {mark: 1 << number for number, mark in enumerate(marks)}
    gone = sum([bit for (lot, _), bit in bits.items() if lot in leaving])
    rows = without_marks([mask_of(pairs, bits) for pairs in told], gone)
    clauses = [clause_of(row, bits) for row in rows]
    return [("clause", clause) for _, clause in sorted([(len(clause), clause) for clause in clauses])]


def apart_papers(formulas, staying):
    """The sealed papers about days."""
    ties = [formula[1:] for formula in formulas if formula[0] == "days"]
    days, _ = days_or_ring(ties)
    names = [name for name in ("", *staying) if name in days]
    told = ties_between(least_between(ties, days, names))
    return [("apart", *tie) for tie in lean_rows_of_ties(told, days)]


def shadow_papers(house):
    """The papers that the house has sealed when it is cut short."""
    papers = house.record.papers
    _, staying = living(house)
    leaving = dropped(house)
    formulas = plain_formulas(papers)
    says = [paper for paper, _ in papers.said() if paper[0] == "says"]
    rows = row_papers(house.plant, formulas, staying, leaving)
    return (*rows, *clause_papers(formulas, leaving), *apart_papers(formulas, staying), *says)


def cut(house):
    """The house cut short."""
    vessels, lots, boxes, samples, used = house.record.stock.state()
    _, staying = living(house)
    kept = tuple([row for row in lots if row[0] in staying])
    _, _, upcoming, labels, sent, customers = house.lore()
    lore = (shadow_papers(house), (), upcoming, labels, sent, customers)
    return House.opened(house.plant, (vessels, kept, boxes, samples, used), lore)
