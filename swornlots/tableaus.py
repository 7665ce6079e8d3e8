"""Exact elimination on rows of shares.

Row number k is written as an equation: its parts and one unit of its slack k come to its bound; the slack of a
row with "<" comes to an arbitrarily small positive amount less, so that all slacks are just at least 0, and
those of rows with "=" are 0. An equation is a dict of integers other than 0: by unknowns, by the numbers of
slacks, for its bound, and for how often the small amount is added to the bound.

An equation that is derived tells by its slacks how often it has each row in it, so it tells prices, too.
"""

from math import gcd

from swornlots.ratios import ONE, ZERO, lowest, plus, times

BOUND = -1
SMALL = -2
GAIN = -3

PATIENCE = 5


def scale_of(row):
    """A positive integer that makes all fractions of the row whole."""
    scale = row[2][1]
    for _, fraction in row[0]:
        scale = scale * fraction[1] // gcd(scale, fraction[1])
    return scale


def equation_of(row, number, scale):
    """The equation of the row times the scale, with one unit of the slack of this number."""
    parts, sign, (above, below) = row
    result = {unknown: top * scale // bottom for unknown, (top, bottom) in parts}
    result[number] = 1
    if above != 0:
        result[BOUND] = above * scale // below
    if sign == "<":
        result[SMALL] = -1
    return result


def reduced(equation):
    """The equation divided by what all its integers have in common."""
    common = 0
    for worth in equation.values():
        common = gcd(common, worth)
        if common == 1:
            return equation
    return {key: worth // common for key, worth in equation.items()}


def negated(equation):
    """The equation times -1."""
    return {key: -worth for key, worth in equation.items()}


def without(equation, pivot, key):
    """A positive multiple of the equation from which the pivot has eliminated the key."""
    common = gcd(pivot[key], equation[key])
    factor = abs(pivot[key]) // common
    less = equation[key] // common if pivot[key] > 0 else -equation[key] // common
    result = {at: worth * factor for at, worth in equation.items()}
    for at, worth in pivot.items():
        left = result.get(at, 0) - worth * less
        if left == 0:
            del result[at]
        else:
            result[at] = left
    return reduced(result)


def is_slack(key):
    """Whether the key of an equation is the number of a slack."""
    return not isinstance(key, tuple) and key >= 0


def size_of(equation):
    """The bound of the equation, with the number of small amounts behind it."""
    return (equation.get(BOUND, 0), equation.get(SMALL, 0))


def limit_of(equation, key):
    """The size of the equation, with the positive integer by which it is to be divided for the key."""
    bound, small = size_of(equation)
    return (bound, small, abs(equation[key]))


def is_less(limit, other):
    """Whether a limit is less than another one."""
    below, divisor = limit[2], other[2]
    return (limit[0] * divisor, limit[1] * divisor) < (other[0] * below, other[1] * below)


def stopping(basis, entering):
    """The slack of the basis that is 0 first when the entering one grows, or None if it grows without end."""
    result, least = None, None
    for slack in sorted(basis):
        equation = basis[slack]
        if equation.get(entering, 0) > 0:
            limit = limit_of(equation, entering)
            if least is None or is_less(limit, least):
                result, least = slack, limit
    return result


def pivoted(basis, leaving, entering):
    """The basis in which one slack has come in the place of another one."""
    pivot = basis[leaving]
    if pivot[entering] < 0:
        pivot = negated(pivot)
    result = {}
    for slack, equation in basis.items():
        if slack != leaving:
            result[slack] = without(equation, pivot, entering) if entering in equation else equation
    result[entering] = pivot
    return result


class Tableau:
    """Rows of which each unknown that can be is solved for, and the equations of slacks that are left.

    `solved` has pairs of an unknown and its equation, in which no unknown solved earlier stands. `basis` has for
    some slacks an equation each, with a positive integer by this slack, which no other one of them has; all other
    slacks and all unknowns that are not solved for are 0.
    """

    def __init__(self, rows):
        self.scales = [scale_of(row) for row in rows]
        self.fixed = {number: True for number, row in enumerate(rows) if row[1] == "="}
        self.solved = []
        self.basis = {}
        free = [number for number in range(len(rows)) if number not in self.fixed]
        for number in [*self.fixed, *free]:
            self.enter(number, equation_of(rows[number], number, self.scales[number]))

    def enter(self, number, equation):
        """Solves the equation of a row for an unknown, or puts its slack into the basis."""
        equation = self.without_solved(equation)
        for key in equation:
            if isinstance(key, tuple):
                self.solved.append((key, equation))
                return
        self.basis[number] = equation

    def without_solved(self, equation):
        """A positive multiple of the equation without the unknowns that are solved for."""
        for unknown, pivot in self.solved:
            if unknown in equation:
                equation = without(equation, pivot, unknown)
        return equation

    def settle(self):
        """Makes all slacks at least 0 and returns None, or returns an equation whose prices shut the rows."""
        for slack in self.fixed:
            if slack in self.basis and BOUND in self.basis[slack]:
                equation = self.basis[slack]
                return equation if equation[BOUND] < 0 else negated(equation)
        costs = self.first_costs()
        patience = self.first_patience()
        while True:
            leaving = self.shortest() if patience > 0 else self.lowest_short()
            if leaving is None:
                return None
            entering = self.cheapest(self.basis[leaving], costs)
            if entering is None:
                return self.basis[leaving]
            self.basis = pivoted(self.basis, leaving, entering)
            if entering in costs:
                costs = without(costs, self.basis[entering], entering)
            patience = patience - 1

    def first_costs(self):
        """An equation that makes each slack outside of the basis cost the same."""
        costs = {key: 1 for key in range(len(self.scales)) if key not in self.basis and key not in self.fixed}
        costs[GAIN] = 1
        return costs

    def shortest(self):
        """The slack of the basis that is least, if it is below 0, otherwise None."""
        result, least = None, None
        for slack, equation in self.basis.items():
            limit = limit_of(equation, slack)
            if size_of(equation) < (0, 0) and (least is None or is_less(limit, least)):
                result, least = slack, limit
        return result

    def lowest_short(self):
        """The slack of the basis with the lowest number that is below 0, or None: so no basis comes twice."""
        return min([slack for slack, equation in self.basis.items() if size_of(equation) < (0, 0)], default=None)

    def steepest(self, equation, patience):
        """The helper that is furthest below 0, or that with the lowest number without patience; None without any.

        With the lowest numbers no basis can come twice.
        """
        helpers = self.helpers(equation)
        if not helpers:
            return None
        if patience <= 0:
            return min(helpers)
        return min([(equation[key], key) for key in helpers])[1]

    def first_patience(self):
        """How many pivots are made by a quick rule before a slow one that surely comes to an end."""
        return PATIENCE * len(self.scales)

    def helpers(self, equation):
        """The slacks, other than fixed ones, that the equation has below 0."""
        return [key for key, worth in equation.items() if worth < 0 and is_slack(key) and key not in self.fixed]

    def cheapest(self, equation, costs):
        """The slack that raises the one of the equation for the least cost, or None."""
        result = None
        for key in sorted(self.helpers(equation)):
            if result is None or costs.get(key, 0) * equation[result] > costs.get(result, 0) * equation[key]:
                result = key
        return result

    def gain_of(self, parts):
        """The equation that tells how often the gain, the value of the parts, is in which slacks."""
        scale = scale_of((parts, "=", ZERO))
        gain = {unknown: -above * scale // below for unknown, (above, below) in parts}
        gain[GAIN] = scale
        gain = self.without_solved(gain)
        for slack, equation in self.basis.items():
            if slack in gain:
                gain = without(gain, equation, slack)
        return gain

    def climb(self, gain):
        """The gain at its end, and None; or None, and the slack by which it grows without end."""
        patience = self.first_patience()
        while True:
            entering = self.steepest(gain, patience)
            if entering is None:
                return (gain, None)
            patience = patience - 1
            leaving = stopping(self.basis, entering)
            if leaving is None:
                return (None, entering)
            self.basis = pivoted(self.basis, leaving, entering)
            gain = without(gain, self.basis[entering], entering)

    def row_prices(self, equation, below=1):
        """How often the equation, divided by below, has each row in it."""
        return tuple([lowest(equation.get(number, 0) * scale, below) for number, scale in enumerate(self.scales)])

    def small_amount(self):
        """A positive amount that is small enough for all slacks of the basis."""
        amount = ONE
        for bound, small in [size_of(equation) for equation in self.basis.values()]:
            if small < 0 and bound * amount[1] < -small * amount[0]:
                amount = lowest(bound, -small)
        return amount

    def point_of(self, unknowns):
        """The values of the unknowns, where the slacks that are not in the basis are 0."""
        amount = self.small_amount()
        values = {BOUND: (-1, 1), SMALL: (-amount[0], amount[1])}
        for slack, equation in self.basis.items():
            values[slack] = solved_for(equation, slack, values)
        return self.spread(unknowns, values)

    def ray_of(self, unknowns, entering, step):
        """How the unknowns change when one slack or unknown changes by the step, 1 or -1."""
        values = {entering: (step, 1)}
        changes = {}
        for slack, equation in self.basis.items():
            changes[slack] = solved_for(equation, slack, values)
        return self.spread(unknowns, {**changes, **values})

    def spread(self, unknowns, values):
        """The pairs of the unknowns and their values, by those of the slacks and of what else is not 0."""
        result = {key: values[key] for key in values}
        for unknown, equation in reversed(list(self.solved)):
            result[unknown] = solved_for(equation, unknown, result)
        return tuple([(unknown, result.get(unknown, ZERO)) for unknown in unknowns])


def solved_for(equation, key, values):
    """The value of the key by the values of the others; what has none is 0. The bound has its value times -1."""
    rest = ZERO
    for at, worth in equation.items():
        if at != key and at in values:
            rest = plus(rest, times((-worth, 1), values[at]))
    return times(rest, lowest(1, equation[key]))
