"""Plants, recipes and stocks for the tests, and random ones."""

from swornlots.errors import BadRecipe, LotError
from swornlots.plants import Plant
from swornlots.recipes import Recipe
from swornlots.stocks import Stock

VESSELS = (("kettle", 100, 10), ("pot", 60, 0), ("tub", 80, 5))


def plant_with(vessels=VESSELS, farms=2, traits=2):
    return Plant(["east", "west", "north", "south"][:farms], ["nuts", "soy", "egg", "milk"][:traits], list(vessels))


def random_step(random, slots, vessels, depth):
    word = random.choice("take take take move move pack pack drain wash when repeat".split())
    if word == "take" and slots:
        return (word, random.choice(slots), random.choice(vessels), random.randint(5, 30))
    if word == "move" and len(vessels) > 1:
        return (word, *random.sample(vessels, 2), random.randint(1, 20))
    if word == "pack":
        return (word, random.choice(vessels), random.randint(1, 15))
    if word == "when" and depth < 3:
        first, second = (random_steps(random, slots, vessels, depth + 1, 2) if random.random() < 0.8 else () for _ in range(2))
        return (word, random.choice(vessels), first, second) if first + second else ("drain", vessels[0])
    if word == "repeat" and depth < 3:
        return (word, random.randint(1, 3), random_steps(random, slots, vessels, depth + 1, 2))
    return (random.choice(["drain", "wash"]), random.choice(vessels))


def random_steps(random, slots, vessels, depth=0, most=6):
    return tuple(random_step(random, slots, vessels, depth) for _ in range(random.randint(1, most)))


def random_recipe(random, plant, slots=None):
    """A recipe that often, but not always, can be run; most of them drain all vessels at the end."""
    while True:
        try:
            return tried_recipe(random, plant, slots)
        except BadRecipe:
            # It had too many steps.
            pass


def tried_recipe(random, plant, slots):
    vessels = list(plant)
    slots = ("s", "t", "u", "v")[:random.randint(0, 3)] if slots is None else slots
    steps = random_steps(random, slots, vessels)
    if slots and random.random() < 0.7:
        steps = (("take", slots[0], random.choice(vessels), random.randint(15, 40)), *steps)
    if random.random() < 0.85:
        steps = (*steps, *[("drain", vessel) for vessel in vessels])
        # A vessel that is touched, but does not come up to its keep, is washed.
        steps = (*steps, *[("wash", vessel) for vessel in vessels if random.random() < 0.3])
    return Recipe(slots, steps)


def small_recipe(random, plant, slots):
    """A recipe that can be run from most standings."""
    steps = []
    for vessel in plant:
        keep = plant[vessel][1]
        if slots and random.random() < 0.7:
            steps.append(("take", random.choice(slots), vessel, random.randint(keep + 1, keep + 20)))
            if random.random() < 0.6:
                steps.append(("pack", vessel, random.randint(1, 3)))
        if random.random() < 0.3:
            steps.append(("wash", vessel))
    others = [vessel for vessel in plant if plant[vessel][1] == 0]
    if steps and steps[0][0] == "take" and others and steps[0][2] != others[0]:
        steps.insert(1, ("move", steps[0][2], others[0], 1))
    steps.extend([("drain", vessel) for vessel in plant])
    return Recipe(slots, tuple(steps))


def rested(random, plant, standing, lots=("q1", "q2", "q3", "q4")):
    """A stock with this standing, whose rests are mixed of several lots and touched by others."""
    stock = Stock(plant)
    for vessel in standing:
        size, keep = plant[vessel]
        for _ in range(random.randint(1, 3)):
            stock.do(("take", random.choice(lots), vessel, random.randint(1, size // 3)))
            if random.random() < 0.3:
                stock.do(("drain", vessel))
        while stock.level(vessel) < keep:
            stock.do(("take", random.choice(lots), vessel, random.randint(1, keep - stock.level(vessel))))
        stock.do(("drain", vessel))
    assert stock.standing() == standing
    return stock


def outcome(do):
    """What a call returns, or the class and the arguments of its error."""
    try:
        return do()
    except LotError as error:
        return (type(error).__name__, *[value for name, value in vars(error).items() if name != "class_name"])
