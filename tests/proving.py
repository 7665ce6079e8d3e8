"""What [20] to [24] say of worlds, formulas and closed trees, reckoned a second time; and random formulas."""

from fractions import Fraction

from shares import do_shut, pair
from swornlots.plants import Plant

EAST, WEST = "east", "west"
NUTS = ("bears", "l1", "nuts")
SOY = ("bears", "l2", "soy")
TRUE, FALSE = ("and", ()), ("or", ())


def plant_of(farms=2):
    return Plant(["east", "west", "north", "south"][:farms], ["nuts", "soy"], [("kettle", 1000, 10), ("pot", 100, 0)])


def share(parts, bound):
    """A share atom from a dict of numbers by lots and farms."""
    return ("share", tuple((unknown, pair(parts[unknown])) for unknown in sorted(parts)), pair(bound))


def is_true(formula, rows, farms):
    """Whether a formula is true by rows of a world."""
    told = {lot: (dict(zip(farms, shares)), traits, day) for lot, shares, traits, day in rows}
    word = formula[0]
    if word == "not":
        return not is_true(formula[1], rows, farms)
    if word in ("and", "or"):
        return (all if word == "and" else any)([is_true(part, rows, farms) for part in formula[1]])
    if word == "share":
        value = sum((Fraction(*f) * Fraction(*told[lot][0][farm]) for (lot, farm), f in formula[1]), Fraction(0))
        return value >= Fraction(*formula[2])
    if word == "bears":
        return formula[2] in told[formula[1]][1]
    _, first, second, n = formula
    days = {"": 0, **{lot: told[lot][2] for lot in told}}
    return days[second] - days[first] <= n


def kleene(formula, answers):
    word = formula[0]
    if word not in ("not", "and", "or"):
        return next((told for atom, told in answers if atom == formula), None)
    if word == "not":
        inner = kleene(formula[1], answers)
        return None if inner is None else not inner
    values = [kleene(part, answers) for part in formula[1]]
    if word == "and":
        return False if False in values else None if None in values else True
    return True if True in values else None if None in values else False


def rows_again(plant, lots, way):
    rows = []
    for lot in sorted(lots):
        rows += [((((lot, farm), (-1, 1)),), "<=", (0, 1)) for farm in plant.farms]
        rows.append((tuple(((lot, farm), (1, 1)) for farm in plant.farms), "=", (1, 1)))
    for atom, told in way:
        if atom[0] == "share":
            turned = tuple((unknown, (-above, below)) for unknown, (above, below) in atom[1])
            rows.append((turned, "<=", (-atom[2][0], atom[2][1])) if told else (atom[1], "<", atom[2]))
    return rows


def ties_again(way):
    return [tuple(atom[1:]) if told else (atom[2], atom[1], -atom[3] - 1) for atom, told in way if atom[0] == "days"]


def is_ring_again(ties, numbers):
    if len(numbers) < 2 or len(set(numbers)) < len(numbers) or numbers[0] != min(numbers):
        return False
    rows = [ties[number] for number in numbers]
    return all(a[1] == b[0] for a, b in zip(rows, rows[1:] + rows[:1])) and sum(row[2] for row in rows) < 0


def shuts_again(plant, lots, formulas, tree, way=()):
    """The number of the leaves of a closed tree; an AssertionError if it is none."""
    if tree[0] == "ask":
        _, atom, yes, no = tree
        assert all(atom != told for told, _ in way)
        many = shuts_again(plant, lots, formulas, yes, (*way, (atom, True)))
        return many + shuts_again(plant, lots, formulas, no, (*way, (atom, False)))
    word, told = tree
    if word == "false":
        assert kleene(formulas[told], way) is False
    elif word == "prices":
        assert do_shut(rows_again(plant, lots, way), told)
    else:
        assert word == "ring" and is_ring_again(ties_again(way), told)
    return 1


def random_atom(random, lots, plant, words=("share", "bears", "days")):
    word = random.choice(words)
    if word == "share":
        unknowns = [(lot, farm) for lot in lots for farm in plant.farms if random.random() < 0.4]
        parts = {unknown: Fraction(random.choice([-2, -1, 1, 1, 2]), random.randint(1, 3)) for unknown in unknowns}
        return share(parts, Fraction(random.randint(-3, 3), random.randint(1, 4)))
    if word == "bears":
        return (word, random.choice(lots), random.choice(plant.traits))
    return (word, *random.sample(["", *lots], 2), random.randint(-4, 4))


def random_formula(random, atoms, depth=3):
    kind = random.random()
    if depth == 0 or kind < 0.3:
        return random.choice(atoms)
    if kind < 0.45:
        return ("not", random_formula(random, atoms, depth - 1))
    many = random.randint(0 if random.random() < 0.1 else 1, 3)
    return (random.choice(["and", "or"]), tuple(random_formula(random, atoms, depth - 1) for _ in range(many)))
