"""Verdicts: what papers make of a claim on a content."""

from swornlots.claims import claim_formula
from swornlots.errors import NoLot


class Verdict:
    """A word, worlds in which the claim is broken and kept, and a closed tree, as far as there are."""

    def __init__(self, word, broken, kept, tree):
        self.word = word
        self.broken = broken
        self.kept = kept
        self.tree = tree

    def __bool__(self):
        return bool(self.word == "sure")


def formula_under(papers, content, claim):
    """The formula of a claim on a content whose touched lots the stock of the papers has."""
    formula = claim_formula(papers.stock.plant, content, claim)
    there = papers.lots_now()
    for lot in content[1]:
        if lot not in there:
            raise NoLot(lot)
    return formula


def breaking_world(papers, content, claim):
    """An allowed world in which the claim is false, and None; or None, and a closed tree that shows it is sure."""
    return papers.settled(("not", formula_under(papers, content, claim)))


def judge(papers, content, claim):
    """The verdict on a claim on a content."""
    broken, tree = breaking_world(papers, content, claim)
    if broken is None:
        return Verdict("sure", None, papers.allowed(), tree)
    kept, tree = papers.settled(formula_under(papers, content, claim))
    return Verdict("never" if kept is None else "open", broken, kept, tree)
