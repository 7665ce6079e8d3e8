"""Shares of lots that keep what is told of them, while limits come and go.

For each lot the shares of all farms but the last one are unknowns from 0 on, which come to 1 at most. What atoms
tell of sums of these are limits of variables: the unknowns themselves, and forms, sums of unknowns times integers.
A row tells how often a variable of the basis, times a positive integer, has the columns, other variables, in it.
A form without any limit has no row and, unless it is a column, is left out of everything.
A limit is a pair of integers, units and arbitrarily small amounts; so many units as `unit` tells are 1.
"""

from math import gcd, lcm

from swornlots.ratios import ONE, ZERO, lowest, opposite, plus, times
from swornlots.rows import gathered

# Rows with a smaller divisor are not worth being reduced.
SMALL_ENOUGH = 1000000


def without_last(parts, farms):
    """The parts without the last farm, the shares of which come to 1 with the others, and the constant that is left."""
    pairs = []
    constant = ZERO
    for (lot, farm), fraction in parts:
        if farm == farms[-1]:
            constant = plus(constant, fraction)
            pairs.extend([((lot, other), opposite(fraction)) for other in farms[:-1]])
        else:
            pairs.append(((lot, farm), fraction))
    return (gathered(pairs), constant)


def form_of(parts):
    """The form that the parts, which are not empty, are a multiple of, and the factor."""
    scale, common = 1, 0
    for _, (_, below) in parts:
        scale = lcm(scale, below)
    numbers = [above * (scale // below) for _, (above, below) in parts]
    for number in numbers:
        common = gcd(common, number)
    if numbers[0] < 0:
        common = -common
    form = tuple([(unknown, number // common) for (unknown, _), number in zip(parts, numbers)])
    return (form, lowest(common, scale))


class Rule:
    """What a literal tells of a form: a limit, and what a unit of it costs in units of the literal."""

    def __init__(self, form, is_low, bound, small, weight):
        self.form = form
        self.is_low = is_low
        self.bound = bound
        self.small = small
        self.weight = weight
        self.limit = None


def rules_of(atom, farms):
    """The rules for the answers no and yes; one of a constant form () is kept if it is None."""
    parts, constant = without_last(atom[1], farms)
    rest = plus(atom[2], opposite(constant))
    if parts == ():
        broken = Rule((), True, rest, 0, ONE)
        return (None, broken) if rest[0] > 0 else (broken, None)
    form, factor = form_of(parts)
    bound = lowest(rest[0] * factor[1], rest[1] * factor[0])
    weight = lowest(factor[1], abs(factor[0]))
    rises = factor[0] > 0
    no = Rule(form, not rises, bound, -1 if rises else 1, weight)
    return (no, Rule(form, rises, bound, 0, weight))


class Limits:
    """The variables with their limits, each with the literal that tells it, and the rows of the basis."""

    def __init__(self, farms, atoms):
        """Atoms are a dict of the share atoms by their numbers."""
        self.farms = farms
        self.rules = {}
        for number, atom in atoms.items():
            self.rules[2 * number], self.rules[2 * number + 1] = rules_of(atom, farms)
        self.unit = 1
        self.variables = {}
        self.forms = []
        self.lows, self.highs = [], []
        self.columns, self.wholes, self.smalls = [], [], []
        self.rows = {}
        self.before = []
        self.is_settled = False
        self.set_limits()
        self.set_variables()

    def told_rules(self):
        """All rules that tell a limit of a form."""
        return [rule for rule in self.rules.values() if rule is not None and rule.form != ()]

    def set_limits(self):
        """Writes the bounds of all rules in units."""
        for rule in self.told_rules():
            self.unit = lcm(self.unit, rule.bound[1])
        for rule in self.told_rules():
            self.limit_rule(rule)

    def limit_rule(self, rule):
        """Writes the bound of a rule in units."""
        above, below = rule.bound
        rule.limit = (above * (self.unit // below), rule.small)

    def set_variables(self):
        """Makes all unknowns, the sum of those of each lot, which is 1 at most, and all other forms."""
        forms = [rule.form for rule in self.told_rules()]
        lots = sorted({lot for form in forms for (lot, _), _ in form})
        sums = [tuple([((lot, farm), 1) for farm in self.farms[:-1]]) for lot in lots]
        for unknown in [unknown for form in sums for unknown, _ in form]:
            self.columns.append(len(self.forms))
            self.wholes.append(0)
            self.smalls.append(0)
            self.add_form(((unknown, 1),), ((0, 0), None))
        for form in sums + forms:
            if form not in self.variables:
                self.add_form(form, None)
        for form in sums:
            self.highs[self.variables[form]] = ((self.unit, 0), None)
            self.make_row(self.variables[form])

    def add_form(self, form, low):
        """Makes a variable for a form, with its low limit."""
        self.variables[form] = len(self.forms)
        self.forms.append(form)
        self.lows.append(low)
        self.highs.append(None)

    def make_row(self, variable):
        """Makes the row of a variable that is neither a column nor in the basis."""
        if variable in self.rows or variable in self.columns:
            return
        below, row = 1, [0] * len(self.columns)
        for unknown, number in self.forms[variable]:
            other, more = self.row_for(self.variables[((unknown, 1),)])
            common = lcm(below, other)
            factor, number = common // below, number * (common // other)
            row = [own * factor + worth * number for own, worth in zip(row, more)]
            below = common
        self.rows[variable] = reduced_row(below, row)

    def row_for(self, variable):
        """The row of a variable with its integer, also if it is a column."""
        if variable in self.rows:
            return self.rows[variable]
        return (1, [1 if other == variable else 0 for other in self.columns])

    def put(self, literal):
        """Sets what the literal tells; None, or a dict of prices that shut it with other literals."""
        rule = self.rules[literal]
        if rule is None or rule.form == ():
            self.before.append(None)
            return None if rule is None else {literal: ONE}
        variable = self.variables[rule.form]
        mine, other = (self.lows, self.highs) if rule.is_low else (self.highs, self.lows)
        held, against = mine[variable], other[variable]
        self.before.append((mine, variable, held))
        if against is not None and is_tighter(rule.limit, against[0], rule.is_low):
            return self.priced([(literal, 1), (against[1], 1)])
        if held is None or is_tighter(rule.limit, held[0], rule.is_low):
            mine[variable] = (rule.limit, literal)
            self.is_settled = False
            self.make_row(variable)
            self.keep_column(variable)
        return None

    def take_back(self):
        """Takes back what was set last."""
        told = self.before.pop()
        if told is not None:
            table, variable, held = told
            table[variable] = held
            if variable in self.rows and not self.has_limit(variable):
                del self.rows[variable]

    def has_limit(self, variable):
        """Whether a variable has any limit."""
        return self.lows[variable] is not None or self.highs[variable] is not None

    def keep_column(self, variable):
        """Moves the value of a variable, if it is a column, to a limit that it breaks."""
        if variable in self.rows:
            return
        at = self.columns.index(variable)
        value = (self.wholes[at], self.smalls[at])
        low, high = self.lows[variable], self.highs[variable]
        if low is not None and value < low[0]:
            self.wholes[at], self.smalls[at] = low[0]
        if high is not None and value > high[0]:
            self.wholes[at], self.smalls[at] = high[0]

    def priced(self, counted):
        """The prices of pairs of a literal, None for what always holds, and a positive integer."""
        return {literal: times(self.rules[literal].weight, (count, 1))
                for literal, count in counted if literal is not None}

    def settle(self):
        """Makes all variables keep their limits; None, or a dict of prices that shut literals."""
        while not self.is_settled:
            broken = self.first_broken()
            if broken is None:
                self.is_settled = True
                return None
            variable, is_low = broken
            at = self.helper(variable, is_low)
            if at is None:
                return self.shutting(variable, is_low)
            table = self.lows if is_low else self.highs
            self.pivot(variable, at, table[variable][0])
        return None

    def value_in_row(self, variable):
        """The units and small amounts of a variable of the basis times its integer, and this integer."""
        below, row = self.rows[variable]
        units = sum([number * value for number, value in zip(row, self.wholes)])
        smalls = sum([number * value for number, value in zip(row, self.smalls)])
        return (units, smalls, below)

    def first_broken(self):
        """The first variable of the basis that breaks a limit, and whether this is the low one; or None."""
        for variable in sorted(self.rows):
            low, high = self.lows[variable], self.highs[variable]
            units, smalls, below = self.value_in_row(variable)
            if low is not None and (units, smalls) < (low[0][0] * below, low[0][1] * below):
                return (variable, True)
            if high is not None and (units, smalls) > (high[0][0] * below, high[0][1] * below):
                return (variable, False)
        return None

    def helper(self, variable, rising):
        """The place of the first column that can move so that the variable rises, or falls; or None."""
        _, row = self.rows[variable]
        result = None
        for at, number in enumerate(row):
            if number != 0 and (result is None or self.columns[at] < self.columns[result]):
                if self.can_move(at, (number > 0) == rising):
                    result = at
        return result

    def can_move(self, at, rising):
        """Whether the value of a column can rise, or fall."""
        value = (self.wholes[at], self.smalls[at])
        if rising:
            high = self.highs[self.columns[at]]
            return high is None or value < high[0]
        low = self.lows[self.columns[at]]
        return low is None or value > low[0]

    def shutting(self, variable, is_low):
        """The prices of what keeps the variable from its limit, as no column can help."""
        below, row = self.rows[variable]
        table, other = (self.lows, self.highs) if is_low else (self.highs, self.lows)
        counted = [(table[variable][1], below)]
        for at, number in enumerate(row):
            if number != 0:
                side = other if number > 0 else table
                counted.append((side[self.columns[at]][1], abs(number)))
        return self.priced(counted)

    def pivot(self, variable, at, limit):
        """Puts the column at this place into the basis for the variable, which gets the limit as its value."""
        below, row = self.rows[variable]
        entering = self.columns[at]
        del self.rows[variable]
        solved = [-number for number in row]
        solved[at] = below
        below = row[at]
        if below < 0:
            below, solved = -below, [-number for number in solved]
        for other in list(self.rows):
            if self.rows[other][1][at] != 0:
                self.rows[other] = replaced(self.rows[other], at, below, solved)
        if self.has_limit(entering):
            self.rows[entering] = (below, solved)
        self.columns[at] = variable
        self.wholes[at], self.smalls[at] = limit

    def all_values(self):
        """The units and small amounts of columns and of the basis, with the integer by which they are to be divided."""
        result = {variable: self.value_in_row(variable) for variable in self.rows}
        for at, variable in enumerate(self.columns):
            result[variable] = (self.wholes[at], self.smalls[at], 1)
        return result

    def small_amount(self, values):
        """A positive fraction of a unit that is small enough for the small amounts."""
        amount = ONE
        for variable, (units, smalls, below) in values.items():
            for limit, sign in ((self.lows[variable], 1), (self.highs[variable], -1)):
                if limit is not None:
                    room = sign * (units - limit[0][0] * below)
                    loss = sign * (limit[0][1] * below - smalls)
                    if loss * amount[0] > room * amount[1]:
                        amount = lowest(room, loss)
        return amount

    def shares(self):
        """A dict of the shares of all farms but the last one in the lots that have limits."""
        values = self.all_values()
        above, below = self.small_amount(values)
        result = {}
        for form, variable in self.variables.items():
            if len(form) == 1 and form[0][1] == 1:
                units, smalls, divisor = values[variable]
                result[form[0][0]] = lowest(units * below + smalls * above, divisor * below * self.unit)
        return result


def is_tighter(limit, other, is_low):
    """Whether a limit excludes more than the other one, both low or both high; or, on the other side, all of it."""
    return limit > other if is_low else limit < other


def replaced(told, at, below, solved):
    """The row of a variable with its integer, in which a solved row stands for its column at this place."""
    divisor, row = told
    number = row[at]
    common = gcd(below, number)
    factor, number = below // common, number // common
    result = [own * factor + number * other for own, other in zip(row, solved)]
    result[at] = number * solved[at]
    return reduced_row(divisor * factor, result)


def reduced_row(divisor, row):
    """The row of a variable with its integer, divided by what they have in common if they are great."""
    if divisor < SMALL_ENOUGH:
        return (divisor, row)
    common = divisor
    for number in row:
        common = gcd(common, number)
        if common == 1:
            return (divisor, row)
    return (divisor // common, [number // common for number in row])
