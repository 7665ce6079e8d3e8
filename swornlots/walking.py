"""Rows of runs that break plain claims, and closed tables of dirts."""

from swornlots.dirts import first_dirt, run_in, runs_from
from swornlots.menus import check_plain_in, is_true_by
from swornlots.worlds import are_traits


class Walk:
    """The least breaking row with the box that can break the claim, or a closed table of dirts."""

    def __init__(self, row, box, table):
        self.row = row
        self.box = box
        self.table = table

    def __bool__(self):
        return self.row is not None


def breaking_box(boxes, claim):
    """The number of the first box that can break a plain claim, or None."""
    for number, (_, inside, around) in enumerate(boxes):
        if not is_true_by(claim, inside, around):
            return number
    return None


def walk(menu, claim):
    """The least row of runs that breaks the plain claim, or a closed table."""
    check_plain_in(menu.plant, claim)
    start = first_dirt(menu.plant)
    rows = {start: ()}
    # As dirts are gone through in the order of their least rows, the first breaking row is the least one.
    queue = [start]
    done = 0
    while done < len(queue):
        dirt = queue[done]
        done += 1
        for entry in runs_from(menu, dirt):
            row = (*rows[dirt], entry)
            boxes, behind = run_in(menu, entry, dirt)
            box = breaking_box(boxes, claim)
            if box is not None:
                return Walk(row, box, None)
            if behind not in rows:
                rows[behind] = row
                queue.append(behind)
    return Walk(None, None, tuple(queue))


def is_place(plant, thing):
    """Whether the thing can stand for a vessel in a dirt of the plant."""
    if thing is None:
        return True
    if not isinstance(thing, tuple) or len(thing) != 2:
        return False
    return are_traits(thing[0], plant.traits) and are_traits(thing[1], plant.traits)


def is_dirt(plant, thing):
    """Whether the thing has the form of a dirt of the plant."""
    if not isinstance(thing, tuple) or len(thing) != len(plant):
        return False
    return all([is_place(plant, told) for told in thing])


def fault_of(menu, claim, dirt, table):
    """The word and the entry with which a dirt of the table, a dict, is not as told, or None."""
    for entry in runs_from(menu, dirt):
        boxes, behind = run_in(menu, entry, dirt)
        if breaking_box(boxes, claim) is not None:
            return ("break", entry)
        if behind not in table:
            return ("leave", entry)
    return None


def judge_table(menu, claim, table):
    """None if the table of dirts is closed for the plain claim, otherwise where it is not."""
    check_plain_in(menu.plant, claim)
    things = table if isinstance(table, (list, tuple)) else ()
    numbered = [(number, thing) for number, thing in enumerate(things) if is_dirt(menu.plant, thing)]
    there = {dirt: True for _, dirt in numbered}
    if first_dirt(menu.plant) not in there:
        return ("first",)
    for number, dirt in numbered:
        fault = fault_of(menu, claim, dirt, there)
        if fault is not None:
            word, entry = fault
            return (word, number, entry)
    return None
