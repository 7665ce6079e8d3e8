"""Clearings: the cheapest tests after which, if all answer yes, the labels of some boxes are true."""

from swornlots.errors import NoWorld, TooMany
from swornlots.formulas import true_in
from swornlots.looks import check_tests, label_formula, test_formula

MOST_TESTS = 8


class Clearing:
    """A set of tests with its price and closed trees, all None if no set clears; and worlds that refute sets."""

    def __init__(self, tests, price, trees, worlds):
        self.tests = tests
        self.price = price
        self.trees = trees
        self.worlds = worlds

    def __bool__(self):
        return self.tests is not None


def sets_in_order(prices):
    """Pairs of a price and a set of numbers of tests, in the order in which sets are tried."""
    sets = [(0, 0, ())]
    for number, price in enumerate(prices):
        sets = [*sets, *[(cost + price, many + 1, (*told, number)) for cost, many, told in sets]]
    return [(cost, told) for cost, _, told in sorted(sets)]


def is_within(numbers, others):
    """Whether all of the numbers are among the others."""
    return all([number in others for number in numbers])


class Clearer:
    """Looks for worlds that break labels though tests answer yes, and keeps what it has found."""

    def __init__(self, papers, looks, labels):
        self.papers = papers
        self.looks = looks
        self.labels = labels
        self.worlds = []
        self.answers = []
        self.cleared = [[] for _ in labels]

    def search(self, numbers, box):
        """A world in which these tests answer yes and the label of the box is false, and None; or None and a tree."""
        formulas = [*[self.looks[number] for number in numbers], ("not", self.labels[box])]
        return self.papers.settled(*formulas)

    def is_refuted(self, numbers):
        """Whether one of the worlds that were found answers yes to all these tests."""
        return any([is_within(numbers, told) for told in self.answers])

    def is_known(self, numbers, box):
        """Whether some of these tests are known to clear the box."""
        return any([is_within(told, numbers) for told in self.cleared[box]])

    def breaking(self, numbers):
        """A world in which these tests answer yes and some label is false, or None."""
        for box in range(len(self.labels)):
            if not self.is_known(numbers, box):
                world, _ = self.search(numbers, box)
                if world is not None:
                    return world
                self.cleared[box].append(numbers)
        return None

    def clears(self, numbers):
        """Whether these tests clear the boxes; a world that shows that they do not is kept."""
        if self.is_refuted(numbers):
            return False
        world = self.breaking(numbers)
        if world is None:
            return True
        self.worlds.append(world)
        self.answers.append([number for number, look in enumerate(self.looks) if true_in(look, world)])
        return False

    def trees_by(self, numbers):
        """For each box a closed tree that shows that these tests clear it."""
        return tuple([self.search(numbers, box)[1] for box in range(len(self.labels))])


def clearing_of(house, boxes, tests):
    """The first set of tests that clears the boxes, if there is one."""
    check_tests(house, boxes, tests)
    if len(tests) > MOST_TESTS:
        raise TooMany("test")
    papers = house.record.papers
    looks = [test_formula(house, test) for test in tests]
    clearer = Clearer(papers, looks, [label_formula(house, box) for box in boxes])
    world, tree = papers.settled(*looks)
    if world is None:
        raise NoWorld(tree)
    world = clearer.breaking(tuple(range(len(tests))))
    if world is not None:
        return Clearing(None, None, None, (world,))
    for price, numbers in sets_in_order([price for price, _, _ in tests]):
        if clearer.clears(numbers):
            break
    # All tests together clear, so one of the sets did, be it the last one.
    return Clearing(numbers, price, clearer.trees_by(numbers), tuple(clearer.worlds))
