"""Ties between the days of lots, days that keep them, and rings."""

from swornlots.errors import BadTie, TooMany
from swornlots.forms import ascends, is_name, is_whole, is_whole_within

MOST_TIES = 200


def is_day_name(thing):
    """Whether the thing can name a day in a tie: that of a lot, or day 0."""
    return thing == "" or is_name(thing)


def is_tie(thing):
    """Whether the thing is a tie."""
    if not isinstance(thing, tuple) or len(thing) != 3:
        return False
    first, second, n = thing
    return is_day_name(first) and is_day_name(second) and first != second and is_whole(n)


def is_dated(thing):
    """Whether the thing is a pair of a lot and a day."""
    return isinstance(thing, tuple) and len(thing) == 2 and is_name(thing[0]) and is_whole(thing[1])


def are_days(thing):
    """Whether the thing has the form of days."""
    if not isinstance(thing, tuple) or not all([is_dated(pair) for pair in thing]):
        return False
    return ascends([lot for lot, _ in thing])


def keeps_tie(tie, days):
    """Whether a dict of days keeps the tie; what it does not have is day 0."""
    first, second, n = tie
    return days.get(second, 0) - days.get(first, 0) <= n


def lots_in(rows):
    """The lots in the ties, ascending."""
    return tuple([name for name in sorted({name for row in rows for name in row[:2]}) if name != ""])


class Ties:
    """Ties that are to be kept together."""

    def __init__(self, rows):
        for number, row in enumerate(rows):
            if not is_tie(row):
                raise BadTie(number)
        if len(rows) > MOST_TIES:
            raise TooMany("tie")
        self.rows = tuple(rows)
        self.names = lots_in(self.rows)

    @property
    def lots(self):
        """The lots in the ties, ascending."""
        return self.names

    def __add__(self, other):
        if not isinstance(other, Ties):
            return NotImplemented
        return Ties(self.rows + other.rows)

    def __len__(self):
        return len(self.rows)

    def __iter__(self):
        return iter(self.rows)

    def __eq__(self, other):
        return isinstance(other, Ties) and self.rows == other.rows

    def __contains__(self, x):
        if not are_days(x) or tuple([lot for lot, _ in x]) != self.names:
            return False
        days = dict(x)
        return all([keeps_tie(row, days) for row in self.rows])


class Placing:
    """Days in the making: the days of all names, each with the number of the tie that lowered it last."""

    def __init__(self, rows):
        self.rows = rows
        self.days = {name: 0 for row in rows for name in row[:2]}
        self.lowered = {}

    def lower(self):
        """Lowers days by each tie once, and tells a name that was lowered, or None."""
        result = None
        for number, (first, second, n) in enumerate(self.rows):
            if self.days[second] > self.days[first] + n:
                self.days[second] = self.days[first] + n
                self.lowered[second] = number
                result = second
        return result

    def ring_before(self, name):
        """The ring to which one comes back from the name along the ties that lowered it."""
        for _ in self.days:
            name = self.rows[self.lowered[name]][0]
        numbers = []
        while not numbers or self.rows[numbers[0]][0] != self.rows[numbers[-1]][1]:
            numbers.insert(0, self.lowered[name])
            name = self.rows[numbers[0]][0]
        return turned(numbers)


def turned(numbers):
    """The ring as a tuple that begins with its least number."""
    at = numbers.index(min(numbers))
    return tuple(numbers[at:] + numbers[:at])


def days_or_ring(rows):
    """A dict of the days of all names in the ties, and None; or None, and a ring."""
    placing = Placing(rows)
    for _ in range(len(placing.days) + 1):
        name = placing.lower()
        if name is None:
            return (placing.days, None)
    return (None, placing.ring_before(name))


def placed(ties):
    """Days of the ties, or a ring."""
    days, ring = days_or_ring(ties.rows)
    if days is None:
        return ("ring", ring)
    start = days.get("", 0)
    return ("days", tuple([(lot, days[lot] - start) for lot in ties.lots]))


def is_ring(ties, ring):
    """Whether the ring is one of the ties."""
    if not isinstance(ring, tuple) or len(ring) < 2:
        return False
    if not all([is_whole_within(number, 0, len(ties.rows) - 1) for number in ring]):
        return False
    if len(set(ring)) != len(ring) or ring[0] != min(ring):
        return False
    rows = [ties.rows[number] for number in ring]
    if any([row[1] != after[0] for row, after in zip(rows, [*rows[1:], rows[0]])]):
        return False
    return sum([n for _, _, n in rows]) < 0
