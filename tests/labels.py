"""Houses with labelled boxes for the tests, and random tests of [35]."""

from offices import random_paper
from proving import plant_of
from swornlots.claims import Claim, claim_formula
from swornlots.errors import LotError
from swornlots.houses import House
from test_claimtexts import random_claim

FREE, SOYLESS, CLEAN = ("free", "nuts"), ("free", "soy"), ("untouched", "nuts")
EAST = ("least", (1, 2), ("east",))
LATE = ("since", 2)
POOL = (FREE, SOYLESS, CLEAN, EAST, LATE, ("single",), ("until", 3), ("most", (1, 4), ("west",)))


def tautology(claim):
    return ("or", claim, ("not", claim))


def put_label(house, box, claim):
    """Puts on a label that is perhaps not sure: it becomes so by papers that are withdrawn again."""
    plant, stock = house.plant, house.stock_now()
    numbers = []
    world = house.papers_now().search(claim_on(house, box, claim))
    if world[0] == "tree":
        return False
    for paper in fixing(plant, stock, world[1]):
        try:
            numbers.append(house.put_paper(paper).number)
        except LotError:
            pass
    house.label(box, claim)
    for number in numbers:
        house.withdraw(number)
    return True


def claim_on(house, box, claim):
    """The formula of a claim on a box."""
    return claim_formula(house.plant, house.stock_now().content(box), claim)

def fixing(plant, stock, world):
    """Papers that allow this world alone, but for traits that the lots need not have."""
    papers = []
    for lot, shares, traits, day in world.rows:
        atoms = [("share", (((lot, farm), (1, 1)),), share) for farm, share in zip(plant.farms, shares)]
        atoms += [("bears", lot, trait) if trait in traits else ("not", ("bears", lot, trait)) for trait in plant.traits]
        atoms += [("days", lot, "", -day), ("days", "", lot, day)]
        papers.append(("says", ("and", tuple(atoms))))
    return papers


def kitchen(papers=()):
    """A house with the lots l1 to l3, the samples s1 (l1), s2 (l1, l2) and the boxes b1 (l1), b2 (l1, l2), b3 (l3 touched by l1, l2)."""
    house = House(plant_of(2))
    for deed in [("take", "l1", "kettle", 40), ("sample", "kettle", "s1"), ("pack", "kettle", "b1", 20), ("take", "l2", "kettle", 20),
                 ("sample", "kettle", "s2"), ("pack", "kettle", "b2", 20), ("move", "kettle", "pot", 10), ("pack", "pot", "b4", 10),
                 ("take", "l3", "pot", 30), ("pack", "pot", "b3", 30), ("take", "l3", "pot", 20)]:
        house.do(deed)
    for paper in papers:
        house.put_paper(paper)
    return house


def some_papers(random, house, many):
    """Puts so many random papers, but those that are refused."""
    for _ in range(many):
        try:
            house.put_paper(random_paper(random, house.stock_now()))
        except LotError:
            pass


def random_labels(random, house):
    """Puts labels on some boxes, and tells these."""
    boxes = []
    for box in house.stock_now().box_names():
        if random.random() < 0.7:
            claim = random.choice(POOL) if random.random() < 0.7 else random_claim(random, 2)
            if put_label(house, box, claim):
                boxes.append(box)
    random.shuffle(boxes)
    return boxes


def random_tests(random, house, many, most=6):
    stock = house.stock_now()
    things = [thing for thing in (*house.plant, *stock.box_names(), *stock.sample_names()) if stock.mix(thing)]
    claims = [random.choice(POOL) if random.random() < 0.8 else random_claim(random, 2) for _ in range(many)]
    return [(random.randint(1, most), random.choice(things), claim) for claim in claims]


def holds(house, thing, claim, world):
    """Whether a claim is true of a thing in a world."""
    return Claim(claim)(house.plant, house.stock_now().content(thing), world)
