"""Forms, rows and systems of shares of lots."""

from swornlots.errors import BadRow, TooMany
from swornlots.forms import ascends, is_name_pair
from swornlots.ratios import ZERO, compare, is_fraction, opposite, plus, times

MOST_ROWS = 200
SIGNS = ("<=", "<", "=")
MINUS_ONE = (-1, 1)


def is_part(thing):
    """Whether the thing is a pair of an unknown and a fraction other than 0."""
    if not isinstance(thing, tuple) or len(thing) != 2:
        return False
    return is_name_pair(thing[0]) and is_fraction(thing[1]) and thing[1] != ZERO


def is_parts(thing):
    """Whether the thing can be the parts of a row."""
    if not isinstance(thing, tuple) or not all([is_part(part) for part in thing]):
        return False
    return ascends([unknown for unknown, _ in thing])


def is_row(thing):
    """Whether the thing is a row."""
    if not isinstance(thing, tuple) or len(thing) != 3:
        return False
    parts, sign, bound = thing
    return is_parts(parts) and sign in SIGNS and is_fraction(bound)


def is_point(thing):
    """Whether the thing is a point."""
    if not isinstance(thing, tuple) or not all([isinstance(pair, tuple) and len(pair) == 2 for pair in thing]):
        return False
    if not all([is_name_pair(unknown) and is_fraction(value) for unknown, value in thing]):
        return False
    return ascends([unknown for unknown, _ in thing])


def gathered(pairs):
    """The parts that pairs of unknowns and fractions in any order add up to."""
    sums = {}
    for unknown, fraction in pairs:
        sums[unknown] = plus(sums.get(unknown, ZERO), fraction)
    return tuple([(unknown, sums[unknown]) for unknown in sorted(sums) if sums[unknown] != ZERO])


def multiplied(parts, factor):
    """The parts with all fractions times the factor, zeros left out."""
    if factor == ZERO:
        return ()
    return tuple([(unknown, times(fraction, factor)) for unknown, fraction in parts])


def value_at(parts, values):
    """The value of the parts by a dict of fractions; an unknown that it does not have counts as 0."""
    result = ZERO
    for unknown, fraction in parts:
        result = plus(result, times(fraction, values.get(unknown, ZERO)))
    return result


def keeps(row, values):
    """Whether a dict of fractions keeps the row."""
    parts, sign, bound = row
    side = compare(value_at(parts, values), bound)
    if sign == "=":
        return side == 0
    return side < 0 or (side == 0 and sign == "<=")


def unknowns_in(rows):
    """The unknowns in the rows, ascending."""
    return tuple(sorted({unknown for row in rows for unknown, _ in row[0]}))


class Form:
    """A sum of unknowns times fractions."""

    def __init__(self, parts=()):
        self.parts = gathered(parts)
        self.names = tuple([unknown for unknown, _ in self.parts])

    def __add__(self, other):
        if not isinstance(other, Form):
            return NotImplemented
        return Form(self.parts + other.parts)

    def __sub__(self, other):
        if not isinstance(other, Form):
            return NotImplemented
        return Form(self.parts + multiplied(other.parts, MINUS_ONE))

    def __neg__(self):
        return Form(multiplied(self.parts, MINUS_ONE))

    def __mul__(self, other):
        if not is_fraction(other):
            return NotImplemented
        return Form(multiplied(self.parts, other))

    def __getitem__(self, at):
        for unknown, fraction in self.parts:
            if unknown == at:
                return fraction
        return ZERO

    def __iter__(self):
        return iter(self.names)

    def __len__(self):
        return len(self.parts)

    def __eq__(self, other):
        return isinstance(other, Form) and self.parts == other.parts

    def at(self, point):
        """The value at a point."""
        return value_at(self.parts, dict(point))


class System:
    """Rows that are to be kept together."""

    def __init__(self, rows):
        for number, row in enumerate(rows):
            if not is_row(row):
                raise BadRow(number)
        if len(rows) > MOST_ROWS:
            raise TooMany("row")
        self.rows = tuple(rows)
        self.names = unknowns_in(self.rows)

    @property
    def unknowns(self):
        """The unknowns in the rows, ascending."""
        return self.names

    def __add__(self, other):
        if not isinstance(other, System):
            return NotImplemented
        return System(self.rows + other.rows)

    def __len__(self):
        return len(self.rows)

    def __iter__(self):
        return iter(self.rows)

    def __eq__(self, other):
        return isinstance(other, System) and self.rows == other.rows

    def __contains__(self, x):
        if not is_point(x) or tuple([unknown for unknown, _ in x]) != self.names:
            return False
        values = dict(x)
        return all([keeps(row, values) for row in self.rows])


def against(row):
    """The row that is kept exactly where this one is not."""
    if not is_row(row) or row[1] == "=":
        raise BadRow(0)
    parts, sign, bound = row
    return (multiplied(parts, MINUS_ONE), "<" if sign == "<=" else "<=", opposite(bound))
