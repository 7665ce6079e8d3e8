"""Traces: held against a second search by [9], and small cases."""

import unittest
from random import Random

from model import some_deeds, stock_of
from swornlots.errors import NoThing, TooMany
from swornlots.plants import Plant
from swornlots.stocks import Stock
from swornlots.traces import first_trace, things_of, traces

PLANT = Plant(["east"], [], [("kettle", 100, 10), ("pot", 100, 0)])


def done(*deeds, plant=PLANT):
    return stock_of(plant, deeds)


def searched(stock, lot, thing):
    """All traces, by trying each row of numbers that [9] allows."""
    deeds = stock.deeds
    is_sample = thing in stock.sample_names()
    found = []

    def follow(k, place, trace):
        """The place is touched by the trace, ahead of deed number k + 1."""
        if place == thing and not is_sample and all(deed != ("wash", place) for deed in deeds[k:]):
            found.append(trace)
        for at in range(k, len(deeds)):
            deed = deeds[at]
            if deed == ("wash", place):
                return
            if deed[0] in ("move", "pack", "part", "open") and deed[1] == place:
                follow(at + 1, deed[2], (*trace, at + 1))
            if deed[0] == "sample" and deed[1] == place and deed[2] == thing and is_sample:
                found.append((*trace, at + 1))

    if stock.opening is not None:
        first = Stock.opened(stock.plant, stock.opening)
        for place in (*first.plant, *first.box_names()):
            if lot in first.touched(place):
                follow(0, place, (0,))
        if thing in first.sample_names() and lot in first.touched(thing):
            found.append((0,))
    for k, deed in enumerate(deeds):
        if deed[0] == "take" and deed[1] == lot:
            follow(k + 1, deed[2], (k + 1,))
    return sorted(found, key=lambda trace: (len(trace), trace))


class RandomTraces(unittest.TestCase):
    def held(self, stock):
        many = 0
        things = (*stock.plant, *stock.box_names(), *stock.sample_names())
        for lot in stock.lot_names():
            for thing in things:
                known = searched(stock, lot, thing)
                if len(known) > 400:
                    with self.assertRaises(TooMany):
                        list(traces(stock, lot, thing))
                else:
                    self.assertEqual(list(traces(stock, lot, thing)), known)
                self.assertEqual(first_trace(stock, lot, thing), known[0] if known else None)
                self.assertEqual(lot in stock.touched(thing), bool(known))
                many += len(known)
            self.assertEqual(things_of(stock, lot), (
                tuple(t for t in things if lot in dict(stock.mix(t))), tuple(t for t in things if lot in stock.touched(t))))
        return many

    def test_random_rows(self):
        plant = Plant(["east"], [], [("kettle", 40, 5), ("pot", 30, 0), ("vat", 20, 3)])
        many = 0
        for seed in range(100):
            random = Random(seed)
            stock = Stock(plant)
            some_deeds(random, stock, 24)
            many += self.held(stock)
            opened = Stock.opened(plant, stock.state())
            some_deeds(random, opened, 16)
            many += self.held(opened)
        self.assertGreater(many, 1000)


class SmallTraces(unittest.TestCase):
    def test_touch_outlasts_the_stuff(self):
        stock = done(("take", "l1", "pot", 10), ("drain", "pot"), ("take", "l2", "pot", 5), ("pack", "pot", "b1", 5))
        self.assertEqual(list(traces(stock, "l1", "pot")), [(1,)])
        self.assertEqual(list(traces(stock, "l1", "b1")), [(1, 4)])
        self.assertEqual(first_trace(stock, "l1", "b1"), (1, 4))
        self.assertEqual(things_of(stock, "l1"), ((), ("pot", "b1")))
        self.assertEqual(things_of(stock, "l2"), (("b1",), ("pot", "b1")))

    def test_wash_ends_traces(self):
        stock = done(("take", "l1", "pot", 10), ("move", "pot", "kettle", 5), ("wash", "pot"), ("take", "l2", "pot", 5))
        self.assertEqual(list(traces(stock, "l1", "pot")), [])
        self.assertIsNone(first_trace(stock, "l1", "pot"))
        self.assertEqual(list(traces(stock, "l1", "kettle")), [(1, 2)])
        stock.do(("take", "l2", "kettle", 9))
        stock.do(("move", "kettle", "pot", 4))
        self.assertEqual(list(traces(stock, "l1", "pot")), [(1, 2, 6)])

    def test_order(self):
        stock = done(("take", "l1", "pot", 10), ("take", "l1", "kettle", 30), ("move", "kettle", "pot", 10),
                     ("take", "l1", "pot", 10), ("move", "pot", "kettle", 30))
        self.assertEqual(list(traces(stock, "l1", "pot")), [(1,), (4,), (2, 3)])
        self.assertEqual(list(traces(stock, "l1", "kettle")), [(2,), (1, 5), (4, 5), (2, 3, 5)])
        self.assertEqual(first_trace(stock, "l1", "kettle"), (2,))

    def test_boxes_and_samples(self):
        stock = done(("take", "l1", "pot", 10), ("pack", "pot", "b1", 6), ("part", "b1", "b2", 2), ("sample", "b2", "s1"),
                     ("open", "b1", "kettle"), ("end", "b2"), ("wash", "pot"), ("wash", "kettle"))
        self.assertEqual(list(traces(stock, "l1", "s1")), [(1, 2, 3, 4)])
        self.assertEqual(list(traces(stock, "l1", "kettle")), [])
        with self.assertRaises(NoThing) as caught:
            list(traces(stock, "l1", "b1"))
        self.assertEqual(caught.exception.name, "b1")

    def test_opening(self):
        past = done(("take", "l1", "pot", 10), ("drain", "pot"), ("take", "l2", "pot", 5), ("sample", "pot", "s1"),
                    ("pack", "pot", "b1", 2))
        stock = Stock.opened(PLANT, past.state())
        self.assertEqual(list(traces(stock, "l1", "pot")), [(0,)])
        self.assertEqual(list(traces(stock, "l1", "s1")), [(0,)])
        self.assertEqual(list(traces(stock, "l1", "b1")), [(0,)])
        stock.do(("open", "b1", "kettle"))
        stock.do(("move", "pot", "kettle", 1))
        stock.do(("take", "l1", "kettle", 1))
        self.assertEqual(list(traces(stock, "l1", "kettle")), [(3,), (0, 1), (0, 2)])

    def test_things_of_orders(self):
        stock = done(("take", "l1", "pot", 20), ("take", "l1", "kettle", 20), ("pack", "pot", "z", 2), ("pack", "pot", "a", 2),
                     ("sample", "pot", "y"), ("sample", "pot", "b"), ("drain", "pot"))
        self.assertEqual(things_of(stock, "l1"),
                         (("kettle", "z", "a", "y", "b"), ("kettle", "pot", "z", "a", "y", "b")))

    def test_names_that_are_not_there(self):
        stock = done(("take", "l1", "pot", 10), ("pack", "pot", "gone", 5), ("end", "gone"))
        for lot, thing, name in [("l9", "nix", "l9"), ("pot", "nix", "pot"), ("l1", "nix", "nix"), ("l1", "gone", "gone")]:
            with self.assertRaises(NoThing) as caught:
                list(traces(stock, lot, thing))
            self.assertEqual(caught.exception.name, name)
            with self.assertRaises(NoThing) as caught:
                first_trace(stock, lot, thing)
            self.assertEqual(caught.exception.name, name)
        for name in ["l9", "pot", "gone", ""]:
            with self.assertRaises(NoThing) as caught:
                things_of(stock, name)
            self.assertEqual(caught.exception.name, name)

    def test_nothing_is_done_before_the_first_step(self):
        stock = done(("take", "l1", "pot", 10))
        early = traces(stock, "l2", "pot")
        stock.do(("take", "l2", "pot", 10))
        self.assertEqual(list(early), [(2,)])

    def test_four_hundred(self):
        plant = Plant(["east"], [], [("a", 10000, 10), ("b", 10000, 0)])
        stock = done(*[("take", "l1", "a", 100)] * 20, *[("move", "a", "b", 10)] * 20, plant=plant)
        told = list(traces(stock, "l1", "b"))
        self.assertEqual(told, [(k, m) for k in range(1, 21) for m in range(21, 41)])
        stock.do(("take", "l1", "b", 1))
        with self.assertRaises(TooMany) as caught:
            next(traces(stock, "l1", "b"))
        self.assertEqual(caught.exception.kind, "trace")
        self.assertEqual(first_trace(stock, "l1", "b"), (41,))
        self.assertEqual(len(list(traces(stock, "l1", "a"))), 20)
        stock.do(("wash", "b"))
        self.assertEqual(list(traces(stock, "l1", "b")), [])


if __name__ == "__main__":
    unittest.main()
