"""Ways: held against a second reckoning by the units of [8], and small cases."""

import unittest
from fractions import Fraction
from random import Random

from model import some_deeds, stock_of
from swornlots.errors import NoThing, TooMany
from swornlots.plants import Plant
from swornlots.stocks import Stock
from swornlots.ways import first_way, walked, ways

PLANT = Plant(["east"], [], [("kettle", 100, 10), ("pot", 100, 0)])
GOING = ("move", "pack", "part", "open")


def done(*deeds, plant=PLANT):
    return stock_of(plant, deeds)


def amount(stock, place):
    if place in stock.plant:
        return stock.level(place)
    return stock.amount(place) if place in stock.box_names() else 0


def taken_away(before, after, deed):
    """The place and the units that the deed takes away from it."""
    if deed[0] in ("take", "sample", "forget"):
        return (None, 0)
    if deed[0] in ("move", "pack", "part"):
        return (deed[1], deed[3])
    return (deed[1], amount(before, deed[1]) - amount(after, deed[1]))


def moments(stock):
    """The stocks ahead of each deed, and the last one."""
    now = Stock(stock.plant) if stock.opening is None else Stock.opened(stock.plant, stock.opening)
    result = [now.copy()]
    for deed in stock.deeds:
        now.do(deed)
        result.append(now.copy())
    return result


def counted_ways(stock, lot, thing):
    """All ways and their shares, by following units along the deeds."""
    stages = moments(stock)
    found = []

    def follow(k, place, units, way):
        if units == 0:
            return
        if k == len(stock.deeds):
            if place == thing and place not in stock.sample_names():
                found.append((way, units / amount(stock, place)))
            return
        deed = stock.deeds[k]
        if deed[0] == "sample" and deed[2] == thing and deed[1] == place and thing in stock.sample_names():
            found.append(((*way, k + 1), units / amount(stages[k], place)))
        source, m = taken_away(stages[k], stages[k + 1], deed)
        if source != place or m == 0:
            follow(k + 1, place, units, way)
            return
        share = Fraction(m, amount(stages[k], place))
        if deed[0] in GOING:
            follow(k + 1, deed[2], units * share, (*way, k + 1))
        follow(k + 1, place, units * (1 - share), way)

    first = stages[0]
    for place in (*first.plant, *first.box_names()):
        share = Fraction(*dict(first.mix(place)).get(lot, (0, 1)))
        follow(0, place, share * amount(first, place), (0,))
    if thing in first.sample_names() and lot in dict(first.mix(thing)):
        found.append(((0,), Fraction(*dict(first.mix(thing))[lot])))
    for k, deed in enumerate(stock.deeds):
        if deed[0] == "take" and deed[1] == lot:
            follow(k + 1, deed[2], Fraction(deed[3]), (k + 1,))
    return sorted(found, key=lambda pair: (len(pair[0]), pair[0]))


class RandomWays(unittest.TestCase):
    def held(self, stock):
        many = 0
        for thing in (*stock.plant, *stock.box_names(), *stock.sample_names()):
            for lot in stock.lot_names():
                told = list(ways(stock, lot, thing))
                shares = [(way, Fraction(*share)) for way, share in told]
                self.assertEqual(shares, counted_ways(stock, lot, thing))
                self.assertTrue(all(share > 0 for _, share in shares))
                self.assertEqual(sum(share for _, share in shares), Fraction(*dict(stock.mix(thing)).get(lot, (0, 1))))
                self.assertEqual(first_way(stock, lot, thing), told[0][0] if told else None)
                many += len(told)
                for way, _ in told:
                    if stock.opening is None:
                        self.assertEqual(walked(stock.plant, stock.deeds, way), thing)
        return many

    def test_random_rows(self):
        plant = Plant(["east"], [], [("kettle", 40, 5), ("pot", 30, 0), ("vat", 20, 3)])
        many = 0
        for seed in range(150):
            random = Random(seed)
            stock = Stock(plant)
            some_deeds(random, stock, 24)
            many += self.held(stock)
            opened = Stock.opened(plant, stock.state())
            many += self.held(opened)
            some_deeds(random, opened, 16)
            many += self.held(opened)
        self.assertGreater(many, 2000)

    def test_walked_by_all_tuples(self):
        """Of all short tuples exactly the ways are ways."""
        plant = Plant(["east"], [], [("pot", 30, 0), ("vat", 20, 3)])
        for seed in range(40):
            random = Random(seed)
            stock = Stock(plant)
            some_deeds(random, stock, 16)
            many = min(len(stock.deeds), 7)
            deeds = stock.deeds[:many]
            stock = done(*deeds, plant=plant)
            known = {}
            for thing in (*stock.plant, *stock.box_names(), *stock.sample_names()):
                for lot in stock.lot_names():
                    known.update({way: thing for way, _ in ways(stock, lot, thing)})
            for code in range(1 << many):
                way = tuple(k + 1 for k in range(many) if code >> k & 1)
                self.assertEqual(walked(plant, deeds, way), known.get(way))


class SmallWays(unittest.TestCase):
    def test_small_case(self):
        plant = Plant(["east", "west"], ["nuts"], [("kettle", 100, 10)])
        stock = done(("take", "l1", "kettle", 30), ("pack", "kettle", "b1", 20), ("take", "l2", "kettle", 30),
                     ("pack", "kettle", "b2", 20), plant=plant)
        self.assertEqual(list(ways(stock, "l1", "b2")), [((1, 4), (1, 4))])
        self.assertEqual(list(ways(stock, "l2", "b2")), [((3, 4), (3, 4))])
        self.assertEqual(list(ways(stock, "l2", "b1")), [])
        self.assertEqual(first_way(stock, "l1", "b2"), (1, 4))
        self.assertIsNone(first_way(stock, "l2", "b1"))
        self.assertEqual(walked(plant, stock.deeds, (1, 4)), "b2")

    def test_order_by_length_and_then_as_tuples(self):
        stock = done(("take", "l1", "pot", 10), ("take", "l1", "kettle", 30), ("move", "kettle", "pot", 10),
                     ("take", "l1", "pot", 10), ("move", "pot", "kettle", 15), ("move", "kettle", "pot", 10))
        told = [way for way, _ in ways(stock, "l1", "pot")]
        self.assertEqual(told, [(1,), (4,), (2, 3), (2, 6), (1, 5, 6), (4, 5, 6), (2, 3, 5, 6)])
        self.assertEqual(first_way(stock, "l1", "pot"), (1,))
        self.assertEqual(first_way(stock, "l1", "kettle"), (2,))

    def test_all_that_is_moved_stays_no_more(self):
        stock = done(("take", "l1", "pot", 10), ("move", "pot", "kettle", 10), ("take", "l1", "pot", 5))
        self.assertEqual(list(ways(stock, "l1", "pot")), [((3,), (1, 1))])
        self.assertEqual(list(ways(stock, "l1", "kettle")), [((1, 2), (1, 1))])
        self.assertIsNone(walked(PLANT, stock.deeds, (1,)))

    def test_drain_wash_and_end_on_the_way(self):
        stock = done(("take", "l1", "kettle", 20), ("drain", "kettle"), ("take", "l1", "kettle", 10))
        self.assertEqual(list(ways(stock, "l1", "kettle")), [((1,), (1, 2)), ((3,), (1, 2))])
        stock = done(("take", "l1", "pot", 20), ("drain", "pot"), ("take", "l1", "pot", 10))
        self.assertEqual(list(ways(stock, "l1", "pot")), [((3,), (1, 1))])
        stock = done(("take", "l1", "kettle", 20), ("wash", "kettle"), ("take", "l1", "kettle", 10))
        self.assertEqual(list(ways(stock, "l1", "kettle")), [((3,), (1, 1))])
        stock = done(("take", "l1", "pot", 20), ("pack", "pot", "b1", 5), ("end", "b1"))
        self.assertIsNone(walked(PLANT, stock.deeds, (1, 2)))
        self.assertEqual(walked(PLANT, stock.deeds, (1,)), "pot")
        self.assertEqual(list(ways(stock, "l1", "pot")), [((1,), (1, 1))])

    def test_open_and_part(self):
        stock = done(("take", "l1", "pot", 20), ("pack", "pot", "b1", 10), ("part", "b1", "b2", 4), ("open", "b1", "kettle"))
        self.assertEqual(list(ways(stock, "l1", "b2")), [((1, 2, 3), (1, 1))])
        self.assertEqual(list(ways(stock, "l1", "kettle")), [((1, 2, 4), (1, 1))])
        self.assertIsNone(walked(PLANT, stock.deeds, (1, 2)))
        with self.assertRaises(NoThing):
            list(ways(stock, "l1", "b1"))

    def test_samples(self):
        stock = done(("take", "l1", "pot", 10), ("sample", "pot", "s1"), ("take", "l2", "pot", 10), ("sample", "pot", "s2"),
                     ("pack", "pot", "b1", 4), ("sample", "b1", "s3"), ("wash", "pot"), ("end", "b1"))
        self.assertEqual(list(ways(stock, "l1", "s1")), [((1, 2), (1, 1))])
        self.assertEqual(list(ways(stock, "l1", "s2")), [((1, 4), (1, 2))])
        self.assertEqual(list(ways(stock, "l2", "s3")), [((3, 5, 6), (1, 2))])
        self.assertEqual(walked(PLANT, stock.deeds, (3, 5, 6)), "s3")
        self.assertIsNone(walked(PLANT, stock.deeds, (3, 4, 5)))
        stock.do(("forget", "s3"))
        self.assertIsNone(walked(PLANT, stock.deeds, (3, 5, 6)))
        with self.assertRaises(NoThing) as caught:
            first_way(stock, "l1", "s3")
        self.assertEqual(caught.exception.name, "s3")

    def test_opening(self):
        past = done(("take", "l1", "pot", 10), ("take", "l2", "pot", 10), ("pack", "pot", "b1", 4), ("sample", "pot", "s1"),
                    ("take", "l2", "kettle", 20))
        stock = Stock.opened(PLANT, past.state())
        self.assertEqual(list(ways(stock, "l1", "pot")), [((0,), (1, 2))])
        self.assertEqual(list(ways(stock, "l1", "s1")), [((0,), (1, 2))])
        self.assertEqual(list(ways(stock, "l1", "kettle")), [])
        stock.do(("move", "kettle", "pot", 8))
        stock.do(("take", "l2", "pot", 8))
        self.assertEqual(list(ways(stock, "l2", "pot")), [((0,), (1, 4)), ((2,), (1, 4)), ((0, 1), (1, 4))])
        stock.do(("open", "b1", "kettle"))
        self.assertEqual(first_way(stock, "l1", "kettle"), (0, 3))
        self.assertEqual(list(ways(stock, "l1", "kettle")), [((0, 3), (1, 8))])

    def test_what_is_no_way(self):
        stock = done(("take", "l1", "pot", 10), ("take", "l2", "kettle", 30), ("move", "kettle", "pot", 10),
                     ("pack", "pot", "b1", 5), ("drain", "pot"))
        for way in [(True,), (True, 4), (), (0,), (-1,), (6,), (1,), (1, 1), (2, 2), (3,), (4,), (2, 4), (1, 3), (1, 3, 4), (3, 2), (4, 1), (1, 4, 5),
                    (1, 5), (0, 4), (1, 2), (2, 3), (1, 4, 4), (10 ** 39,), (2, 3, 10 ** 39)]:
            self.assertIsNone(walked(PLANT, stock.deeds, way), way)
        for way, thing in [((2,), "kettle"), ((1, 4), "b1"), ((2, 3, 4), "b1")]:
            self.assertEqual(walked(PLANT, stock.deeds, way), thing)
            self.assertEqual(walked(PLANT, list(stock.deeds), way), thing)

    def test_names_that_are_not_there(self):
        stock = done(("take", "l1", "pot", 10), ("pack", "pot", "gone", 5), ("end", "gone"))
        for lot, thing, name in [("l9", "nix", "l9"), ("pot", "nix", "pot"), ("gone", "pot", "gone"), ("l1", "nix", "nix"),
                                 ("l1", "l1", "l1"), ("l1", "gone", "gone")]:
            with self.assertRaises(NoThing) as caught:
                list(ways(stock, lot, thing))
            self.assertEqual(caught.exception.name, name)
            with self.assertRaises(NoThing) as caught:
                first_way(stock, lot, thing)
            self.assertEqual(caught.exception.name, name)

    def test_nothing_is_done_before_the_first_step(self):
        stock = done(("take", "l1", "pot", 10))
        early = ways(stock, "l2", "b1")
        with self.assertRaises(NoThing):
            next(ways(stock, "l2", "b1"))
        stock.do(("take", "l2", "pot", 10))
        stock.do(("pack", "pot", "b1", 10))
        self.assertEqual(list(early), [((2, 3), (1, 2))])


class ManyWays(unittest.TestCase):
    def crowd(self):
        """20 takes and 20 moves: 400 ways to the second vessel."""
        plant = Plant(["east"], [], [("a", 10000, 10), ("b", 10000, 0)])
        return done(*[("take", "l1", "a", 100)] * 20, *[("move", "a", "b", 10)] * 20, plant=plant)

    def test_four_hundred(self):
        stock = self.crowd()
        told = list(ways(stock, "l1", "b"))
        self.assertEqual(len(told), 400)
        self.assertEqual([way for way, _ in told], [(k, m) for k in range(1, 21) for m in range(21, 41)])
        self.assertEqual(sum(Fraction(*share) for _, share in told), 1)
        stock.do(("take", "l1", "b", 1))
        with self.assertRaises(TooMany) as caught:
            next(ways(stock, "l1", "b"))
        self.assertEqual(caught.exception.kind, "way")
        self.assertEqual(first_way(stock, "l1", "b"), (41,))
        self.assertEqual(len(list(ways(stock, "l1", "a"))), 20)

    def test_ways_to_other_things_count_no_more(self):
        stock = self.crowd()
        stock.do(("take", "l1", "b", 1))
        stock.do(("wash", "b"))
        stock.do(("take", "l1", "b", 1))
        self.assertEqual(list(ways(stock, "l1", "b")), [((43,), (1, 1))])

    def test_very_many(self):
        plant = Plant(["east"], [], [("a", 10000, 10), ("b", 10000, 1)])
        stock = done(("take", "l1", "a", 5000), ("take", "l1", "b", 5000),
                     *[("move", "a", "b", 10), ("move", "b", "a", 10)] * 99, plant=plant)
        with self.assertRaises(TooMany):
            next(ways(stock, "l1", "b"))
        self.assertEqual(first_way(stock, "l1", "a"), (1,))
        self.assertEqual(walked(plant, stock.deeds, tuple(range(2, 201))[1:]), None)
        self.assertEqual(walked(plant, stock.deeds, (1, *range(3, 201))), "a")


if __name__ == "__main__":
    unittest.main()
