"""Tests: claims that are looked up on things of a house, for a price."""

from swornlots.claimforms import is_claim, unknown_in
from swornlots.claims import formula_on
from swornlots.errors import BadTest, Bare
from swornlots.formulas import true_in
from swornlots.forms import is_whole_within

GREATEST_PRICE = 1000


def is_price(thing):
    """Whether the thing is a price."""
    return is_whole_within(thing, 1, GREATEST_PRICE)


def has_stuff(stock, thing):
    """Whether the thing is the name of a vessel, box or sample with stuff in it."""
    if not isinstance(thing, str):
        return False
    content = stock.moment.content(thing)
    return content is not None and content[0] != ()


def is_test(house, thing):
    """Whether the thing is a test that can be done in the house."""
    if not isinstance(thing, tuple) or len(thing) != 3:
        return False
    price, name, claim = thing
    if not is_price(price) or not has_stuff(house.record.stock, name) or not is_claim(claim):
        return False
    return unknown_in(house.plant, claim) is None


def check_labelled(house, boxes):
    """Refuses the first of the boxes that is not there, then the first one without a label."""
    now = house.record
    for box in boxes:
        now.stock.amount(box)
    for box in boxes:
        if box not in now.labels:
            raise Bare(box)


def check_tests(house, boxes, tests):
    """Refuses boxes without labels, then the first of the tests that is none."""
    check_labelled(house, boxes)
    for number, test in enumerate(tests):
        if not is_test(house, test):
            raise BadTest(number)


def test_formula(house, test):
    """The formula that is true where the test answers yes."""
    _, thing, claim = test
    return formula_on(house.plant, house.record.stock.content(thing), claim)


def label_formula(house, box):
    """The formula of the label of a box."""
    now = house.record
    return formula_on(house.plant, now.stock.content(box), now.labels[box])


def answers_in(house, tests, world):
    """For each of the tests whether it answers yes in the world."""
    return tuple([true_in(test_formula(house, test), world) for test in tests])
