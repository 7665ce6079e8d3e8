"""Plants with menus that are alike, whatever is run, or part."""

from swornlots.dirts import first_dirt, run_in
from swornlots.errors import Unlike


class Twins:
    """The least parting row, or a closed table of pairs of dirts."""

    def __init__(self, row, table):
        self.row = row
        self.table = table

    def __bool__(self):
        return self.row is None


def pairs_behind(menu, other, pair):
    """Pairs of an entry that can be run and of the pair of dirts behind it, which is None where the plants part."""
    result = []
    for entry in range(len(menu)):
        first, second = run_in(menu, entry, pair[0]), run_in(other, entry, pair[1])
        if first is None and second is None:
            continue
        if first is None or second is None or first[0] != second[0]:
            result.append((entry, None))
        else:
            result.append((entry, (first[1], second[1])))
    return result


def compare_menus(menu, other):
    """Whether two menus tell the same of all rows of runs, with what shows it."""
    if menu.plant.traits != other.plant.traits:
        raise Unlike("traits")
    if len(menu) != len(other):
        raise Unlike("entries")
    start = (first_dirt(menu.plant), first_dirt(other.plant))
    rows = {start: ()}
    # As pairs are gone through in the order of their least rows, the first parting row is the least one.
    queue = [start]
    done = 0
    while done < len(queue):
        pair = queue[done]
        done += 1
        for entry, behind in pairs_behind(menu, other, pair):
            row = (*rows[pair], entry)
            if behind is None:
                return Twins(row, None)
            if behind not in rows:
                rows[behind] = row
                queue.append(behind)
    return Twins(None, tuple(queue))
