"""Stocks with papers for the tests, and random papers."""

from fractions import Fraction

from model import stock_of
from proving import plant_of, random_atom, share
from shares import pair
from swornlots.errors import LotError

BASE = (
    ("take", "l1", "kettle", 40), ("take", "l2", "kettle", 120), ("sample", "kettle", "s1"), ("take", "l3", "pot", 10), ("pack", "kettle", "b1", 40),
    ("move", "kettle", "pot", 30), ("sample", "pot", "s2"), ("pack", "pot", "b2", 20),
)


def office(farms=2, deeds=BASE):
    """A stock with the lots l1 to l3 and the samples s1 (l1 by 1/4, l2 by 3/4) and s2."""
    return stock_of(plant_of(farms), deeds)


def sum_of_shares(lot, farms, sign=1):
    return tuple(((lot, farm), (sign, 1)) for farm in farms)


def random_said(random, lots, plant, depth=3, inside=False):
    """A formula without a share atom inside of a `not`."""
    kind = random.random()
    if depth == 0 or kind < 0.35:
        return random_atom(random, lots, plant, ("bears", "days") if inside else ("share", "bears", "days"))
    if kind < 0.5:
        return ("not", random_said(random, lots, plant, depth - 1, True))
    parts = tuple(random_said(random, lots, plant, depth - 1, inside) for _ in range(random.randint(1, 3)))
    return (random.choice(["and", "or", "or"]), parts)


def random_paper(random, stock):
    lots, plant = list(stock.lot_names()), stock.plant
    word = random.choice("least most bears lacks from until apart clear found measured row clause says says".split())
    lot, farms = random.choice(lots), tuple(sorted(random.sample(plant.farms, random.randint(1, len(plant.farms)))))
    if word in ("least", "most"):
        return (word, lot, farms, pair(Fraction(random.randint(0, 4), 4)))
    if word in ("bears", "lacks"):
        return (word, lot, random.choice(plant.traits))
    if word in ("from", "until"):
        return (word, lot, random.randint(-5, 5))
    if word == "apart":
        return (word, *random.sample(["", *lots], 2), random.randint(-3, 6))
    sample = random.choice(stock.sample_names() or ("s1",))
    if word in ("clear", "found"):
        return (word, sample, random.choice(plant.traits))
    if word == "measured":
        low, high = sorted(random.randint(0, 4) for _ in range(2))
        return (word, sample, farms, pair(Fraction(low, 4)), pair(Fraction(high, 4)))
    if word == "row":
        parts = {(one, farm): Fraction(random.choice([-1, 1, 2]), 2) for one in lots for farm in plant.farms if random.random() < 0.3}
        return (word, *share(parts or {(lot, farms[0]): 1}, Fraction(random.randint(-2, 2), 4))[1:])
    if word == "clause":
        return (word, tuple(((one, trait), random.random() < 0.5) for one in sorted(lots) for trait in plant.traits if random.random() < 0.3))
    return (word, random_said(random, lots, plant))


def put_some(random, papers, many):
    """Puts so many random papers, but those that are refused."""
    for _ in range(many):
        try:
            papers.put(random_paper(random, papers.stock))
        except LotError:
            pass
