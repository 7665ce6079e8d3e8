"""The greatest and the least end of a form over a system."""

from swornlots.errors import BadRow, Shut, Strict
from swornlots.ratios import lowest, opposite
from swornlots.rows import MINUS_ONE, is_parts, multiplied, unknowns_in
from swornlots.tableaus import BOUND, GAIN, Tableau


class End:
    """What is told of an end: a value with a point and prices, or a point and a ray."""

    def __init__(self, value, point, prices, ray):
        self.value = value
        self.point = point
        self.prices = prices
        self.ray = ray

    def __bool__(self):
        return self.value is not None


def check_not_strict(system):
    """Refuses the first row with "<"."""
    for number, row in enumerate(system.rows):
        if row[1] == "<":
            raise Strict(number)


def free_key(gain):
    """An unknown by which the gain grows without end, or None."""
    for key in gain:
        if isinstance(key, tuple):
            return key
    return None


def greatest(system, parts):
    """The greatest end of the form over the system."""
    if not is_parts(parts):
        raise BadRow(0)
    check_not_strict(system)
    return greatest_of_rows(system.rows, parts)


def greatest_of_rows(rows, parts):
    """The greatest end of the form over rows without "<"."""
    tableau = Tableau(rows)
    shutting = tableau.settle()
    if shutting is not None:
        raise Shut(tableau.row_prices(shutting))
    names = unknowns_in([*rows, (parts, "=", (0, 1))])
    gain = tableau.gain_of(parts)
    endless = free_key(gain)
    if endless is not None:
        ray = tableau.ray_of(names, endless, -1 if gain[endless] > 0 else 1)
        return End(None, tableau.point_of(names), None, ray)
    gain, endless = tableau.climb(gain)
    if endless is not None:
        return End(None, tableau.point_of(names), None, tableau.ray_of(names, endless, 1))
    value = lowest(gain.get(BOUND, 0), gain[GAIN])
    return End(value, tableau.point_of(names), tableau.row_prices(gain, gain[GAIN]), None)


def least(system, parts):
    """The least end of the form over the system."""
    if not is_parts(parts):
        raise BadRow(0)
    end = greatest(system, multiplied(parts, MINUS_ONE))
    if not end:
        return end
    return End(opposite(end.value), end.point, end.prices, None)
