"""Points of systems, and prices that shut them."""

from swornlots.ratios import ZERO, plus, times
from swornlots.rows import gathered, keeps
from swornlots.tableaus import Tableau


def point_or_prices(rows, unknowns):
    """A point of the rows with these unknowns, and None; or None, and prices that shut the rows."""
    tableau = Tableau(rows)
    shutting = tableau.settle()
    if shutting is None:
        return (tableau.point_of(unknowns), None)
    return (None, tableau.row_prices(shutting))


def solve(system):
    """A point of the system, or prices that shut it."""
    point, prices = point_or_prices(system.rows, system.unknowns)
    if point is None:
        return ("shut", prices)
    return ("point", point)


def unkept(system, point):
    """The number of the first row that the point does not keep, or None."""
    values = dict(point)
    for number, row in enumerate(system.rows):
        if not keeps(row, values):
            return number
    return None


def sum_of(system, prices):
    """The parts and the bound of the sum of the rows by prices."""
    return sum_of_rows(system.rows, prices)


def sum_of_rows(rows, prices):
    """The parts and the bound of the sum of some rows by prices."""
    pairs = []
    bound = ZERO
    for row, price in zip(rows, prices):
        pairs.extend([(unknown, times(fraction, price)) for unknown, fraction in row[0]])
        bound = plus(bound, times(row[2], price))
    return (gathered(pairs), bound)


def shuts(system, prices):
    """Whether the prices shut the system."""
    return shuts_rows(system.rows, prices)


def shuts_rows(rows, prices):
    """Whether the prices shut some rows."""
    if len(prices) != len(rows):
        return False
    priced = [(row, price) for row, price in zip(rows, prices) if price != ZERO]
    if any([row[1] != "=" and price[0] < 0 for row, price in priced]):
        return False
    parts, bound = sum_of_rows([row for row, _ in priced], [price for _, price in priced])
    if parts != () or bound[0] > 0:
        return False
    return bound[0] < 0 or any([row[1] == "<" for row, _ in priced])
