"""Tables of the ties that follow from others, shadows of ties, last and first days."""

from heapq import heappop, heappush

from swornlots.days import days_or_ring
from swornlots.errors import NoDays, NoLot


def days_of(ties):
    """A dict of days that keep the ties, for all their names and day 0."""
    days, ring = days_or_ring(ties.rows)
    if days is None:
        raise NoDays(ring)
    return {"": 0, **days}


def steps_of(rows):
    """For each name the pairs of the second name and the n of the ties in which it is the first one."""
    result = {}
    for first, second, n in rows:
        result.setdefault(first, []).append((second, n))
    return result


def least_from(steps, days, start):
    """For each name to which steps lead from the start the least sum of n on the way to it.

    By days that keep the ties, no step is below 0 when the days of its names are reckoned in: so each name that
    comes first out of the queue has its least sum.
    """
    found = {}
    queue = [(0, start)]
    while queue:
        cost, name = heappop(queue)
        if name in found:
            continue
        found[name] = cost
        for other, n in steps.get(name, ()):
            if other not in found:
                heappush(queue, (cost + n + days[name] - days[other], other))
    return {name: cost - days[start] + days[name] for name, cost in found.items()}


def least_between(rows, days, names):
    """A dict with the least n of the ties that follow from rows with days, by the first and the second of the names."""
    steps = steps_of(rows)
    result = {}
    for first in names:
        told = least_from(steps, days, first)
        for second in names:
            if second in told:
                result[(first, second)] = told[second]
    return result


def ties_between(least):
    """The ties between different names in such a dict."""
    return tuple([(first, second, n) for (first, second), n in least.items() if first != second])


class Table:
    """For each two names of ties the least n for which the tie with these names follows."""

    def __init__(self, ties):
        self.names = ties.lots
        self.least = least_between(ties.rows, days_of(ties), ("", *self.names))
        self.rows = ties_between(self.least)

    def __getitem__(self, at):
        for name in at:
            if name != "" and name not in self.names:
                raise NoLot(name)
        first, second = at
        return self.least.get((first, second))

    def __iter__(self):
        return iter(self.rows)

    def __len__(self):
        return len(self.rows)

    def __eq__(self, other):
        return isinstance(other, Table) and self.names == other.names and self.rows == other.rows


def shadow_ties(ties, lots):
    """All ties that follow, with the least n, between these lots and day 0."""
    kept = {"": True}
    for lot in lots:
        kept[lot] = True
    return tuple([row for row in Table(ties) if row[0] in kept and row[1] in kept])


def lean_ties(ties):
    """The ties without those that follow from the others, from the first to the last."""
    return lean_rows_of_ties(ties.rows, days_of(ties))


def lean_rows_of_ties(rows, days):
    """The same for the rows of ties with days that keep them."""
    kept = []
    for number, row in enumerate(rows):
        first, second, n = row
        told = least_from(steps_of([*kept, *rows[number + 1:]]), days, first)
        if second not in told or told[second] > n:
            kept.append(row)
    return tuple(kept)


def days_told(lots, days):
    """Days from a list with the day of each lot, or None if one of them is None."""
    if any([day is None for day in days]):
        return None
    return tuple(zip(lots, days))


def last_days(ties):
    """The last days that the lots can have, or None if some lot has none."""
    table = Table(ties)
    return days_told(ties.lots, [table["", lot] for lot in ties.lots])


def first_days(ties):
    """The first days that the lots can have, or None if some lot has none."""
    table = Table(ties)
    leasts = [table[lot, ""] for lot in ties.lots]
    return days_told(ties.lots, [None if least is None else -least for least in leasts])
