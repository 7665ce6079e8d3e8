"""Washings: the cheapest ways to do all orders, with vessels washed in between."""

from swornlots.claimforms import check_known, is_claim
from swornlots.dirts import first_dirt, run_in
from swornlots.errors import BadOrder
from swornlots.forms import ascends, is_whole, is_whole_within
from swornlots.menus import check_plain
from swornlots.walking import breaking_box, is_dirt

MOST_ORDERS = 6


class Washing:
    """A plan of the least price, None if there is none, and the worths of all stands that can be come to."""

    def __init__(self, steps, price, worths):
        self.steps = steps
        self.price = price
        self.worths = worths

    def __bool__(self):
        return self.steps is not None


def is_order(menu, thing):
    """Whether the thing is an order."""
    if not isinstance(thing, tuple) or len(thing) != 2:
        return False
    return is_whole_within(thing[0], 0, len(menu) - 1) and is_claim(thing[1])


def check_orders(menu, orders):
    """Refuses the first order that is none, then the first one whose claim has unknown names or is not plain."""
    for number, order in enumerate(orders[:MOST_ORDERS]):
        if not is_order(menu, order):
            raise BadOrder(number)
    if not 1 <= len(orders) <= MOST_ORDERS:
        raise BadOrder(min(len(orders), MOST_ORDERS))
    for _, claim in orders:
        check_known(menu.plant, claim)
        check_plain(claim)


class Task:
    """Orders with their ties and the prices of washing, and the steps that lead on from a stand."""

    def __init__(self, menu, orders, ties, prices):
        self.menu = menu
        self.orders = orders
        self.ties = ties
        self.prices = prices

    def first_stand(self):
        """The stand in which nothing is done."""
        return ((), first_dirt(self.menu.plant))

    def is_done(self, stand):
        """Whether all orders are done."""
        return len(stand[0]) == len(self.orders)

    def steps_from(self, stand):
        """A list of triples of a step, its price and the stand behind it."""
        return self.washes_from(stand) + self.runs_of_orders(stand)

    def washes_from(self, stand):
        """The same for the washings of vessels that are not clean."""
        done, dirt = stand
        result = []
        for number, name in enumerate(self.menu.plant):
            if dirt[number] is not None:
                behind = (*dirt[:number], None, *dirt[number + 1:])
                result.append((("wash", name), self.prices[number], (done, behind)))
        return result

    def runs_of_orders(self, stand):
        """The same for the orders that can be run."""
        done, dirt = stand
        result = []
        for order, (entry, claim) in enumerate(self.orders):
            if order in done or not self.is_due(order, done):
                continue
            told = run_in(self.menu, entry, dirt)
            if told is not None and breaking_box(told[0], claim) is None:
                result.append((("run", order), 0, (tuple(sorted((*done, order))), told[1])))
        return result

    def is_due(self, order, done):
        """Whether all orders that are tied before this one are done."""
        return all([first in done for first, second in self.ties if second == order])

    def least_step(self, stand, worths):
        """The least worth of a stand by a dict of the worths behind it, with the step and the stand; or None."""
        result = None
        for step, price, behind in self.steps_from(stand):
            worth = worths[behind]
            if worth is not None and (result is None or price + worth < result[0]):
                result = (price + worth, step, behind)
        return result

    def worth_by(self, stand, worths):
        """The worth that a stand has by those of the stands behind it."""
        if self.is_done(stand):
            return 0
        told = self.least_step(stand, worths)
        return None if told is None else told[0]


def stands_reached(task):
    """A list of all stands that can be come to."""
    found = {task.first_stand(): True}
    todo = [task.first_stand()]
    while todo:
        for _, _, behind in task.steps_from(todo.pop()):
            if behind not in found:
                found[behind] = True
                todo.append(behind)
    return list(found)


def progress_of(stand):
    """How far a stand is: those behind its steps have more orders done, or as many, and more clean vessels."""
    done, dirt = stand
    return (len(done), len([told for told in dirt if told is None]))


def worths_of(task):
    """A dict of the worths of all stands that can be come to."""
    worths = {}
    for stand in sorted(stands_reached(task), key=progress_of, reverse=True):
        worths[stand] = task.worth_by(stand, worths)
    return worths


def cheapest_steps(task, worths):
    """The steps of a plan of the least price."""
    stand = task.first_stand()
    steps = []
    while not task.is_done(stand):
        _, step, stand = task.least_step(stand, worths)
        steps.append(step)
    return tuple(steps)


def washing_of(menu, orders, *, ties=(), prices):
    """A plan of the least price by which all orders are done, if there is one, and the worths of all stands."""
    check_orders(menu, orders)
    task = Task(menu, tuple(orders), tuple(ties), tuple(prices))
    worths = worths_of(task)
    price = worths[task.first_stand()]
    return Washing(None if price is None else cheapest_steps(task, worths), price, worths)


def is_stand(task, thing):
    """Whether the thing is a stand."""
    if not isinstance(thing, tuple) or len(thing) != 2 or not isinstance(thing[0], tuple):
        return False
    if not all([is_whole_within(order, 0, len(task.orders) - 1) for order in thing[0]]):
        return False
    return ascends(thing[0]) and is_dirt(task.menu.plant, thing[1])


def fault_at(task, stand, worths):
    """A stand, this one or one behind it, where the worths are not as told; or None."""
    for _, _, behind in task.steps_from(stand):
        if behind not in worths:
            return behind
    return None if worths[stand] == task.worth_by(stand, worths) else stand


def judge_worths(menu, orders, worths, *, ties=(), prices):
    """None if the worths are as told, with that of the first stand, otherwise a stand where they are not."""
    check_orders(menu, orders)
    task = Task(menu, tuple(orders), tuple(ties), tuple(prices))
    table = worths if isinstance(worths, dict) else {}
    told = {stand: worth for stand, worth in table.items() if is_stand(task, stand)}
    if task.first_stand() not in told:
        return task.first_stand()
    for stand, worth in told.items():
        if worth is not None and not is_whole(worth):
            return stand
    for stand in told:
        fault = fault_at(task, stand, told)
        if fault is not None:
            return fault
    return None
