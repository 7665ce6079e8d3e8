"""Rows that follow from systems, and shadows of systems on some unknowns."""

from swornlots.ends import check_not_strict
from swornlots.errors import BadRow
from swornlots.leaning import lean_rows
from swornlots.points import point_or_prices, sum_of_rows
from swornlots.ratios import ONE, lowest, opposite, plus, times
from swornlots.rows import MINUS_ONE, System, against, is_row, multiplied, unknowns_in

NO_POINT = ((), "<=", (-1, 1))


def halves(row):
    """The rows with "<=" or "<" that together say the same as the row."""
    parts, sign, bound = row
    if sign != "=":
        return [row]
    return [(parts, "<=", bound), (multiplied(parts, MINUS_ONE), "<=", opposite(bound))]


def follows(system, row):
    """None if the row follows from the system, otherwise a point that shows that it does not."""
    if not is_row(row):
        raise BadRow(0)
    names = unknowns_in([*system.rows, row])
    for half in halves(row):
        point, _ = point_or_prices([*system.rows, against(half)], names)
        if point is not None:
            return point
    return None


def lean(system):
    """The system without the rows that follow from the others."""
    return System(lean_rows(system.rows))


def factor_in(row, unknown):
    """The fraction that the row has with the unknown, or None."""
    return dict(row[0]).get(unknown)


def sides(rows, unknown):
    """The rows with the unknown above 0, those with it below 0, and those without it."""
    above, below, rest = [], [], []
    for row in rows:
        factor = factor_in(row, unknown)
        if factor is None:
            rest.append(row)
        elif factor[0] > 0:
            above.append(row)
        else:
            below.append(row)
    return (above, below, rest)


def inverse(fraction):
    """1 divided by the absolute of the fraction."""
    return lowest(fraction[1], abs(fraction[0]))


def plain_row(parts, sign, bound):
    """The same row, such that rows whose parts are multiples of each other have the same parts."""
    if parts == ():
        return (parts, sign, bound)
    factor = inverse(parts[0][1])
    return (multiplied(parts, factor), sign, times(bound, factor))


def combined(first, second, unknown):
    """What a row with the unknown above 0 and one with it below 0 say together of the others."""
    prices = [inverse(factor_in(row, unknown)) for row in (first, second)]
    parts, bound = sum_of_rows([first, second], prices)
    return plain_row(parts, "<=", bound)


def substituted(row, equal, unknown):
    """The row, from which a row with "=" has eliminated the unknown."""
    factor = factor_in(row, unknown)
    if factor is None:
        return row
    divisor = factor_in(equal, unknown)
    price = opposite(times(factor, lowest(divisor[1], divisor[0])))
    parts, bound = sum_of_rows([row, equal], [ONE, price])
    return plain_row(parts, row[1], bound)


def tightest(rows):
    """The rows without those that have the same parts and sign as another one, but a greater bound."""
    bounds = {}
    for parts, sign, bound in rows:
        before = bounds.get((parts, sign))
        if before is None or plus(bound, opposite(before))[0] < 0:
            bounds[(parts, sign)] = bound
    return [(parts, sign, bound) for (parts, sign), bound in bounds.items()]


def equal_with(rows, names):
    """The number of the shortest row with "=" that has one of the unknowns, and this unknown; or None."""
    found = []
    for number, (parts, sign, _) in enumerate(rows):
        told = [unknown for unknown, _ in parts if unknown in names]
        if sign == "=" and told:
            found.append((len(parts), number, told[0]))
    if not found:
        return None
    return min(found)[1:]


def work_of(rows, unknown):
    """How many more rows there are when the unknown is eliminated."""
    above, below, _ = sides(rows, unknown)
    return len(above) * len(below) - len(above) - len(below)


def without_one(rows, names):
    """Rows whose points are those of the rows without one of the unknowns, and the other unknowns."""
    equal = equal_with(rows, names)
    if equal is not None:
        number, unknown = equal
        rest = [substituted(row, rows[number], unknown) for k, row in enumerate(rows) if k != number]
    else:
        unknown = min(names, key=lambda name: work_of(rows, name))
        above, below, rest = sides(rows, unknown)
        rest = rest + [combined(first, second, unknown) for first in above for second in below]
    return (lean_rows(tightest(rest)), [name for name in names if name != unknown])


def shadow(system, unknowns):
    """A system in these unknowns whose points are those that lift to points of the system."""
    check_not_strict(system)
    point, _ = point_or_prices(system.rows, system.unknowns)
    if point is None:
        return System((NO_POINT,))
    names = [unknown for unknown in system.unknowns if unknown not in unknowns]
    return System(rows_without(lean_rows(system.rows), names))


def rows_without(rows, names):
    """Rows whose points are those of the rows, which have one, without the unknowns of these names."""
    while names:
        rows, names = without_one(rows, names)
    return rows


def settled(row, values):
    """The row for the unknowns that the values do not have."""
    parts, sign, bound = row
    left = []
    for unknown, fraction in parts:
        if unknown in values:
            bound = plus(bound, opposite(times(fraction, values[unknown])))
        else:
            left.append((unknown, fraction))
    return (tuple(left), sign, bound)


def lift(system, point):
    """A point of the system that agrees with the point, or None."""
    values = dict(point)
    rows = [settled(row, values) for row in system.rows]
    names = tuple([unknown for unknown in system.unknowns if unknown not in values])
    rest, _ = point_or_prices(rows, names)
    if rest is None:
        return None
    return tuple(sorted([*point, *rest]))
