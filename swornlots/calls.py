"""Boxes that are called back, and the letters about them."""

from swornlots.judging import breaking_world
from swornlots.traces import first_trace
from swornlots.ways import first_way


class Call:
    """A box that is called back: its customer, its label, a world that breaks it, and how its lots came to it."""

    def __init__(self, box, customer, claim, world, ways):
        self.box = box
        self.customer = customer
        self.claim = claim
        self.world = world
        self.ways = ways


def ways_to(stock, box):
    """For each touched lot of a box its first way to it, or its first trace if it is not in the mix."""
    mix, touched = stock.content(box)
    mixed = dict(mix)
    return tuple([(lot, first_way(stock, lot, box) if lot in mixed else first_trace(stock, lot, box))
                  for lot in touched])


def calls(house):
    """Generates the calls of all boxes that are called back, in the order of packing."""
    now = house.record
    for box in now.called:
        claim = now.labels[box]
        world, _ = breaking_world(now.papers, now.stock.content(box), claim)
        yield Call(box, now.sent.get(box, ""), claim, world, ways_to(now.stock, box))


def called_boxes(house):
    """The boxes that are called back, in the order of packing."""
    return house.record.called


def letters(house):
    """For each customer who has boxes that are called back these boxes."""
    now = house.record
    result = []
    for customer in now.customers:
        boxes = tuple([box for box in now.called if now.sent.get(box) == customer])
        if boxes:
            result.append((customer, boxes))
    return tuple(result)
