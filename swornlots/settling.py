"""Settlings: the cheapest plans of tests after which it is known which labels are true."""

from swornlots.errors import TooMany
from swornlots.formulas import true_in
from swornlots.looks import check_tests, label_formula, test_formula

MOST_TESTS = 5


class Settling:
    """A plan with its price; or, if there is none, two worlds apart in which all tests answer alike."""

    def __init__(self, plan, price, apart, looks):
        self.plan = plan
        self.price = price
        self.apart = apart
        self.looks = looks

    def __bool__(self):
        return self.plan is not None

    def __call__(self, world):
        asked = []
        plan = self.plan
        while plan[0] == "ask":
            _, number, yes, no = plan
            asked.append(number)
            plan = yes if true_in(self.looks[number], world) else no
        return (tuple(asked), plan[1])


def truths(formulas, world):
    """A tuple of whether each of the formulas is true in the world."""
    return tuple([true_in(formula, world) for formula in formulas])


def turned(formulas, senses):
    """The formulas that tell that each of the formulas is true or not, as its sense tells."""
    return [formula if sense else ("not", formula) for formula, sense in zip(formulas, senses)]


class Settler:
    """Finds out which answers of all tests allowed worlds give, and which labels are true behind them."""

    def __init__(self, papers, looks, labels):
        self.papers = papers
        self.looks = looks
        self.labels = labels
        self.found = {}
        self.apart = None

    def explore(self, senses):
        """Notes all answers that begin with these senses; stops as soon as two worlds are apart."""
        if self.apart is not None:
            return
        formulas = turned(self.looks, senses)
        world, _ = self.papers.settled(*formulas)
        if world is None:
            return
        if len(senses) < len(self.looks):
            self.explore((*senses, True))
            self.explore((*senses, False))
            return
        told = truths(self.labels, world)
        self.found[senses] = told
        if told != ():
            self.compare_with(world, senses, told)

    def compare_with(self, world, senses, told):
        """Looks for a world with the same answers as this one in which not the same labels are true."""
        others = turned(self.labels, [not sense for sense in told])
        formulas = [*turned(self.looks, senses), ("or", tuple(others))]
        other, _ = self.papers.settled(*formulas)
        if other is None:
            return
        for first, second in zip(told, truths(self.labels, other)):
            if first != second:
                self.apart = (world, other) if first else (other, world)
                return


class Planner:
    """Finds the cheapest plan behind some answers, which are a tuple with True, False or None for each test."""

    def __init__(self, prices, found):
        self.prices = prices
        self.found = found
        self.known = {}

    def plan_behind(self, answers):
        """The pair of the price and the plan; the price is None where no allowed world leads."""
        if answers not in self.known:
            self.known[answers] = self.cheapest(answers)
        return self.known[answers]

    def cheapest(self, answers):
        """The same, where it is not known yet."""
        ends = self.ends_behind(answers)
        if not ends:
            return (None, ("none",))
        if all([end == ends[0] for end in ends]):
            words = tuple(["sure" if is_true else "never" for is_true in ends[0]])
            return (0, ("end", words))
        least, result = None, None
        for number, answer in enumerate(answers):
            if answer is None:
                price, plan = self.asking(answers, number)
                if least is None or price < least:
                    least, result = price, plan
        return (least, result)

    def ends_behind(self, answers):
        """A list of which labels are true, for all answers of all tests that agree with these."""
        return [told for senses, told in self.found.items() if agrees(senses, answers)]

    def asking(self, answers, number):
        """The price and the plan, if this test is asked next."""
        prices, plans = [], []
        for sense in (True, False):
            behind = (*answers[:number], sense, *answers[number + 1:])
            price, plan = self.plan_behind(behind)
            plans.append(plan)
            if price is not None:
                prices.append(price)
        return (self.prices[number] + max(prices), ("ask", number, *plans))


def agrees(senses, answers):
    """Whether the senses are those of all answers that are not None."""
    return all([answer is None or answer == sense for sense, answer in zip(senses, answers)])


def settling_of(house, boxes, tests):
    """The cheapest plan that settles the boxes, if there is one."""
    check_tests(house, boxes, tests)
    if len(tests) > MOST_TESTS:
        raise TooMany("test")
    looks = tuple([test_formula(house, test) for test in tests])
    settler = Settler(house.record.papers, looks, [label_formula(house, box) for box in boxes])
    settler.explore(())
    if settler.apart is not None:
        return Settling(None, None, settler.apart, looks)
    planner = Planner([price for price, _, _ in tests], settler.found)
    price, plan = planner.plan_behind((None,) * len(tests))
    return Settling(plan, price, None, looks)
