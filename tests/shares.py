"""Systems for the tests, and what [11] to [13] say of them, reckoned a second time with Fraction."""

from fractions import Fraction

from swornlots.rows import System

UNKNOWNS = (("a", "east"), ("a", "west"), ("b", "east"), ("b", "west"), ("c", "east"))
X, Y, Z = UNKNOWNS[:3]


def pair(number):
    number = Fraction(number)
    return (number.numerator, number.denominator)


def row(parts, sign, bound):
    """A row from a dict of numbers."""
    return (tuple((unknown, pair(parts[unknown])) for unknown in sorted(parts)), sign, pair(bound))


def system(*rows):
    return System([row(*told) for told in rows])


def point(values):
    return tuple((unknown, pair(values[unknown])) for unknown in sorted(values))


def value(parts, values):
    return sum((Fraction(*fraction) * values[unknown] for unknown, fraction in parts), Fraction(0))


def keeps_row(told, values):
    left, bound = value(told[0], values), Fraction(*told[2])
    return {"<=": left <= bound, "<": left < bound, "=": left == bound}[told[1]]


def keeps_all(rows, told):
    """Whether a point with all their unknowns keeps the rows."""
    values = {unknown: Fraction(*fraction) for unknown, fraction in told}
    return all(keeps_row(one, values) for one in rows)


def sums(rows, prices):
    """A dict of what is not 0 in the sum of the rows by prices, and its bound."""
    total, bound = {}, Fraction(0)
    for (parts, _, limit), price in zip(rows, prices):
        bound += Fraction(*price) * Fraction(*limit)
        for unknown, fraction in parts:
            total[unknown] = total.get(unknown, 0) + Fraction(*price) * Fraction(*fraction)
    return ({unknown: number for unknown, number in total.items() if number}, bound)


def are_prices(rows, prices):
    if not isinstance(prices, tuple) or len(prices) != len(rows):
        return False
    return all(one[1] == "=" or Fraction(*price) >= 0 for one, price in zip(rows, prices))


def do_shut(rows, prices):
    if not are_prices(rows, prices):
        return False
    parts, bound = sums(rows, prices)
    strict = any(one[1] == "<" and Fraction(*price) > 0 for one, price in zip(rows, prices))
    return not parts and (bound < 0 or (bound == 0 and strict))


def random_number(random, most=4):
    return Fraction(random.randint(-most, most), random.randint(1, 3))


def random_row(random, unknowns, signs):
    parts = {unknown: random_number(random) for unknown in unknowns if random.random() < 0.6}
    return row({u: f for u, f in parts.items() if f}, random.choice(signs), random_number(random))


def random_system(random, signs=("<=", "<=", "<", "="), most=8):
    """A system that sometimes has no point, sometimes just some, and in which rows often follow from others."""
    unknowns = UNKNOWNS[:random.randint(0, 4)]
    rows = [random_row(random, unknowns, signs) for _ in range(random.randint(0, most))]
    if random.random() < 0.7:
        centre = {unknown: random_number(random) for unknown in UNKNOWNS}
        for k, (parts, sign, _) in enumerate(rows):
            more = 0 if sign == "=" else random.choice([0, 0, 1, Fraction(1, 2)]) + (sign == "<")
            rows[k] = (parts, sign, pair(value(parts, centre) + more))
    if rows and random.random() < 0.5:
        for _ in range(random.randint(1, 3)):
            parts, bound = sums([random.choice(rows), random.choice(rows)], [(1, 1), (random.randint(0, 2), 1)])
            rows.insert(random.randint(0, len(rows)), row(parts, random.choice(signs), bound + random.choice([0, 0, 1])))
    return System(rows)
