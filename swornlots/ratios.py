"""Fractions: pairs of integers in lowest terms."""

from math import gcd

from swornlots.errors import BadFraction
from swornlots.forms import is_whole

ZERO = (0, 1)
ONE = (1, 1)


def lowest(above, below):
    """The fraction that is above divided by below, which is not 0."""
    common = gcd(above, below)
    if below < 0:
        common = -common
    return (above // common, below // common)


def plus(first, second):
    """The sum of two fractions."""
    if first[1] == second[1]:
        return lowest(first[0] + second[0], first[1])
    return lowest(first[0] * second[1] + second[0] * first[1], first[1] * second[1])


def times(first, second):
    """The product of two fractions."""
    return lowest(first[0] * second[0], first[1] * second[1])


def opposite(fraction):
    """The fraction times -1."""
    return (-fraction[0], fraction[1])


def is_fraction(thing):
    """Whether the thing is a fraction."""
    if not isinstance(thing, tuple) or len(thing) != 2:
        return False
    above, below = thing
    return is_whole(above) and is_whole(below) and below >= 1 and gcd(above, below) == 1


def is_share(thing):
    """Whether the thing is a fraction from 0 to 1."""
    return is_fraction(thing) and 0 <= thing[0] <= thing[1]


def check_fraction(thing):
    """Refuses what is no fraction."""
    if not is_fraction(thing):
        raise BadFraction(thing)


def compare(first, second):
    """-1, 0 or 1, as the first fraction is less than, equal to or greater than the second one."""
    check_fraction(first)
    check_fraction(second)
    left = first[0] * second[1]
    right = second[0] * first[1]
    if left == right:
        return 0
    return -1 if left < right else 1


def total(pairs):
    """The sum of some fractions."""
    for pair in pairs:
        check_fraction(pair)
    result = ZERO
    for pair in pairs:
        result = plus(result, pair)
    return result


class Ratio:
    """A fraction that can be reckoned with by signs."""

    def __init__(self, above, below=1):
        if below == 0:
            raise BadFraction(below)
        self.above, self.below = lowest(above, below)

    @classmethod
    def of(cls, pair):
        """The Ratio of a fraction."""
        check_fraction(pair)
        return cls(pair[0], pair[1])

    @property
    def pair(self):
        """The fraction."""
        return (self.above, self.below)

    def __add__(self, other):
        if not isinstance(other, Ratio):
            return NotImplemented
        return Ratio(self.above * other.below + other.above * self.below, self.below * other.below)

    def __sub__(self, other):
        if not isinstance(other, Ratio):
            return NotImplemented
        return Ratio(self.above * other.below - other.above * self.below, self.below * other.below)

    def __mul__(self, other):
        if not isinstance(other, Ratio):
            return NotImplemented
        return Ratio(self.above * other.above, self.below * other.below)

    def __neg__(self):
        return Ratio(-self.above, self.below)

    def __abs__(self):
        return Ratio(abs(self.above), self.below)

    def __eq__(self, other):
        return isinstance(other, Ratio) and self.above == other.above and self.below == other.below

    def over(self, other):
        """The quotient of this one and the other one; Ratio refuses the 0 below that a zero would bring."""
        return Ratio(self.above * other.below, self.below * other.above)

    def less(self, other):
        """Whether this one is less than the other one."""
        return self.above * other.below < other.above * self.below
