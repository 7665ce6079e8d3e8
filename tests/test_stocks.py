"""Stocks: what each deed does, standing, state, copies, openings."""

import unittest

from model import stock_of
from swornlots.errors import LotError, NoThing, Known
from swornlots.plants import Plant
from swornlots.stocks import Stock

PLANT = Plant(["east", "west"], ["nuts"], [("kettle", 100, 10), ("pot", 50, 0)])
L1 = ((("l1", (1, 1)),), ("l1",))


def done(*deeds, plant=PLANT):
    return stock_of(plant, deeds)


class TheSmallCase(unittest.TestCase):
    """The case of [54], up to the shares of b2."""

    def test_small_case(self):
        plant = Plant(["east", "west"], ["nuts"], [("kettle", 100, 10)])
        stock = Stock(plant)
        rows = [("take", "l1", "kettle", 30), ("pack", "kettle", "b1", 20),
                ("take", "l2", "kettle", 30), ("pack", "kettle", "b2", 20)]
        self.assertEqual([stock.do(deed) for deed in rows], [1, 2, 3, 4])
        self.assertEqual(stock.mix("b1"), (("l1", (1, 1)),))
        self.assertEqual(stock.mix("b2"), (("l1", (1, 4)), ("l2", (3, 4))))
        self.assertEqual(stock.touched("b1"), ("l1",))
        self.assertEqual(stock.level("kettle"), 20)


class EachDeed(unittest.TestCase):
    def test_at_first(self):
        stock = Stock(PLANT)
        self.assertEqual(stock.plant, PLANT)
        for vessel in PLANT:
            self.assertEqual(stock.level(vessel), 0)
            self.assertIs(stock.clean(vessel), True)
            self.assertEqual(stock.content(vessel), ((), ()))
        self.assertEqual(stock.state(), (((0, (), ()), (0, (), ())), (), (), (), ()))
        self.assertEqual((stock.deeds, stock.opening), ((), None))
        self.assertEqual((stock.lot_names(), stock.box_names(), stock.sample_names()), ((), (), ()))

    def test_take(self):
        stock = done(("take", "l1", "kettle", 30))
        self.assertEqual(stock.level("kettle"), 30)
        self.assertIs(stock.clean("kettle"), False)
        self.assertEqual(stock.content("kettle"), L1)
        self.assertEqual(stock.units("l1"), ((30, 1), (0, 1), (0, 1)))
        stock.do(("take", "l2", "kettle", 10))
        self.assertEqual(stock.mix("kettle"), (("l1", (3, 4)), ("l2", (1, 4))))
        self.assertEqual(stock.touched("kettle"), ("l1", "l2"))
        stock.do(("take", "l1", "pot", 5))
        self.assertEqual(stock.units("l1"), ((35, 1), (0, 1), (0, 1)))
        self.assertEqual(stock.lot_names(), ("l1", "l2"))

    def test_move(self):
        stock = done(("take", "l1", "kettle", 30), ("take", "l2", "pot", 10), ("move", "kettle", "pot", 20))
        self.assertEqual((stock.level("kettle"), stock.level("pot")), (10, 30))
        self.assertEqual(stock.content("kettle"), L1)
        self.assertEqual(stock.content("pot"), ((("l1", (2, 3)), ("l2", (1, 3))), ("l1", "l2")))

    def test_move_of_all_leaves_touch(self):
        stock = done(("take", "l1", "pot", 7), ("move", "pot", "kettle", 7))
        self.assertEqual(stock.content("pot"), ((), ("l1",)))
        self.assertEqual((stock.level("pot"), stock.clean("pot")), (0, False))
        stock.do(("take", "l2", "pot", 5))
        self.assertEqual(stock.content("pot"), ((("l2", (1, 1)),), ("l1", "l2")))
        stock.do(("pack", "pot", "b1", 5))
        self.assertEqual(stock.content("b1"), ((("l2", (1, 1)),), ("l1", "l2")))
        self.assertEqual(stock.content("pot"), ((), ("l1", "l2")))

    def test_touch_goes_with_what_is_moved(self):
        stock = done(("take", "l1", "pot", 7), ("drain", "pot"), ("take", "l2", "pot", 5), ("move", "pot", "kettle", 1))
        self.assertEqual(stock.content("kettle"), ((("l2", (1, 1)),), ("l1", "l2")))

    def test_drain(self):
        stock = done(("take", "l1", "kettle", 30), ("take", "l2", "kettle", 10), ("drain", "kettle"))
        self.assertEqual(stock.level("kettle"), 10)
        self.assertEqual(stock.content("kettle"), ((("l1", (3, 4)), ("l2", (1, 4))), ("l1", "l2")))
        self.assertEqual(stock.units("l1"), ((30, 1), (45, 2), (0, 1)))
        self.assertEqual(stock.units("l2"), ((10, 1), (15, 2), (0, 1)))
        stock.do(("drain", "kettle"))
        self.assertEqual(stock.units("l1"), ((30, 1), (45, 2), (0, 1)))
        self.assertEqual(len(stock.deeds), 4)

    def test_drain_below_the_keep_and_without_keep(self):
        stock = done(("take", "l1", "kettle", 3), ("drain", "kettle"), ("take", "l1", "pot", 4), ("drain", "pot"))
        self.assertEqual((stock.level("kettle"), stock.level("pot")), (3, 0))
        self.assertEqual(stock.content("pot"), ((), ("l1",)))
        self.assertEqual(stock.units("l1"), ((7, 1), (4, 1), (0, 1)))
        stock.do(("drain", "pot"))
        self.assertEqual(stock.content("pot"), ((), ("l1",)))

    def test_wash(self):
        stock = done(("take", "l1", "kettle", 30), ("take", "l2", "kettle", 10), ("wash", "kettle"))
        self.assertEqual((stock.level("kettle"), stock.clean("kettle")), (0, True))
        self.assertEqual(stock.content("kettle"), ((), ()))
        self.assertEqual(stock.units("l1"), ((30, 1), (30, 1), (0, 1)))
        self.assertEqual(stock.units("l2"), ((10, 1), (10, 1), (0, 1)))
        stock.do(("wash", "kettle"))
        stock.do(("wash", "pot"))
        self.assertEqual(stock.units("l1"), ((30, 1), (30, 1), (0, 1)))

    def test_pack(self):
        stock = done(("take", "l1", "kettle", 30), ("pack", "kettle", "b1", 20))
        self.assertEqual((stock.level("kettle"), stock.amount("b1")), (10, 20))
        self.assertEqual((stock.content("kettle"), stock.content("b1")), (L1, L1))
        self.assertEqual(stock.units("l1"), ((30, 1), (0, 1), (0, 1)))

    def test_part(self):
        stock = done(("take", "l1", "pot", 9), ("pack", "pot", "b1", 9), ("part", "b1", "b2", 5), ("part", "b2", "b0", 1))
        self.assertEqual([stock.amount(box) for box in ("b1", "b2", "b0")], [4, 4, 1])
        self.assertEqual([stock.content(box) for box in ("b1", "b2", "b0")], [L1, L1, L1])
        self.assertEqual(stock.box_names(), ("b1", "b2", "b0"))

    def test_open(self):
        stock = done(("take", "l1", "pot", 9), ("pack", "pot", "b1", 9), ("take", "l2", "kettle", 3),
                     ("open", "b1", "kettle"))
        self.assertEqual(stock.level("kettle"), 12)
        self.assertEqual(stock.content("kettle"), ((("l1", (3, 4)), ("l2", (1, 4))), ("l1", "l2")))
        self.assertEqual(stock.box_names(), ())
        self.assertFalse("b1" in stock)
        with self.assertRaises(NoThing):
            stock.amount("b1")
        self.assertEqual(stock.state()[4], ("b1", "l1", "l2"))

    def test_end(self):
        stock = done(("take", "l1", "pot", 6), ("take", "l2", "pot", 3), ("pack", "pot", "b1", 5), ("end", "b1"))
        self.assertFalse("b1" in stock)
        self.assertEqual(stock.units("l1"), ((6, 1), (0, 1), (10, 3)))
        self.assertEqual(stock.units("l2"), ((3, 1), (0, 1), (5, 3)))

    def test_sample_and_forget(self):
        stock = done(("take", "l1", "pot", 9), ("sample", "pot", "s1"), ("pack", "pot", "b1", 2), ("take", "l2", "pot", 1),
                     ("sample", "b1", "s2"))
        self.assertEqual((stock.content("s1"), stock.content("s2")), (L1, L1))
        self.assertEqual((stock.level("pot"), stock.amount("b1")), (8, 2))
        self.assertEqual(stock.sample_names(), ("s1", "s2"))
        stock.do(("wash", "pot"))
        stock.do(("end", "b1"))
        self.assertEqual((stock.mix("s1"), stock.touched("s2")), (L1[0], L1[1]))
        stock.do(("forget", "s1"))
        self.assertEqual(stock.sample_names(), ("s2",))
        self.assertFalse("s1" in stock)
        self.assertEqual(stock.state()[4], ("b1", "l1", "l2", "s1", "s2"))


class Asking(unittest.TestCase):
    def setUp(self):
        self.stock = done(("take", "l2", "pot", 9), ("take", "l1", "pot", 9), ("pack", "pot", "b2", 2),
                          ("pack", "pot", "b1", 2), ("sample", "pot", "s2"), ("sample", "b2", "s1"),
                          ("pack", "pot", "gone", 1), ("end", "gone"), ("sample", "pot", "past"), ("forget", "past"))

    def test_names_in_their_orders(self):
        self.assertEqual(self.stock.lot_names(), ("l2", "l1"))
        self.assertEqual(self.stock.box_names(), ("b2", "b1"))
        self.assertEqual(self.stock.sample_names(), ("s2", "s1"))

    def test_in(self):
        for name in ["kettle", "pot", "l1", "l2", "b1", "b2", "s1", "s2"]:
            self.assertIs(name in self.stock, True)
        for thing in ["gone", "past", "east", "nuts", "", None, 1, True, ["pot"], ("pot",), {"pot": 1}, set()]:
            self.assertIs(thing in self.stock, False)

    def test_no_such_thing(self):
        asked = {
            "level": ["b1", "l1", "s1", "gone", "none", "past"],
            "clean": ["b1", "l1", "s1", "gone", ""],
            "amount": ["pot", "l1", "s1", "gone"],
            "mix": ["l1", "gone", "past", "nowhere"],
            "touched": ["l1", "gone", "past", "nowhere"],
            "content": ["l1", "gone", "past", "nowhere"],
            "units": ["pot", "b1", "s1", "gone", "l3"],
        }
        for method, names in asked.items():
            for name in names:
                with self.subTest(method=method, name=name), self.assertRaises(NoThing) as caught:
                    getattr(self.stock, method)(name)
                self.assertEqual(caught.exception.name, name)

    def test_names_of_other_kinds(self):
        for method in ["level", "clean", "amount", "mix", "touched", "content", "units"]:
            for name in [["pot"], None, True, ("pot",)]:
                with self.assertRaises(NoThing) as caught:
                    getattr(self.stock, method)(name)
                self.assertIs(caught.exception.name, name)

    def test_state(self):
        half = ((("l1", (1, 2)), ("l2", (1, 2))), ("l1", "l2"))
        self.assertEqual(self.stock.state(), (
            ((0, (), ()), (13, *half)),
            (("l2", (9, 1), (0, 1), (1, 2)), ("l1", (9, 1), (0, 1), (1, 2))),
            (("b2", 2, *half), ("b1", 2, *half)),
            (("s2", *half), ("s1", *half)),
            ("b1", "b2", "gone", "l1", "l2", "past", "s1", "s2"),
        ))


class Standing(unittest.TestCase):
    def test_clean_vessels(self):
        self.assertEqual(Stock(PLANT).standing(), ())

    def test_rests(self):
        stock = done(("take", "l1", "kettle", 30), ("drain", "kettle"))
        self.assertEqual(stock.standing(), ("kettle",))
        stock.do(("take", "l1", "pot", 3))
        self.assertIsNone(stock.standing())
        stock.do(("drain", "pot"))
        self.assertEqual(stock.standing(), ("kettle", "pot"))
        stock.do(("wash", "kettle"))
        self.assertEqual(stock.standing(), ("pot",))

    def test_order_of_the_plant(self):
        plant = Plant(["east"], [], [("z", 9, 0), ("m", 9, 2), ("a", 9, 0)])
        stock = done(("take", "l1", "a", 1), ("drain", "a"), ("take", "l1", "z", 1), ("drain", "z"),
                     ("take", "l1", "m", 2), plant=plant)
        self.assertEqual(stock.standing(), ("z", "m", "a"))

    def test_neither_clean_nor_at_its_keep(self):
        self.assertIsNone(done(("take", "l1", "kettle", 9)).standing())
        self.assertIsNone(done(("take", "l1", "kettle", 11)).standing())
        self.assertEqual(done(("take", "l1", "kettle", 10)).standing(), ("kettle",))
        self.assertIsNone(done(("take", "l1", "pot", 1)).standing())


class CopiesAndOpenings(unittest.TestCase):
    ROW = (("take", "l1", "pot", 9), ("pack", "pot", "b1", 2), ("sample", "b1", "s1"), ("sample", "pot", "s2"),
           ("forget", "s2"), ("take", "l2", "kettle", 40), ("drain", "kettle"), ("pack", "pot", "b2", 1), ("end", "b2"))

    def test_equal_by_plant_opening_and_deeds(self):
        first, second = done(*self.ROW), done(*self.ROW)
        self.assertTrue(first == second)
        second.do(("wash", "pot"))
        self.assertFalse(first == second)
        first.do(("drain", "pot"))
        self.assertFalse(first == second)
        other = Plant(["east"], ["nuts"], PLANT.vessels)
        self.assertFalse(done(*self.ROW) == done(*self.ROW, plant=other))
        for thing in [None, first.state(), 1, "stock", first.deeds]:
            self.assertFalse(first == thing)
        self.assertFalse(Stock.opened(PLANT, Stock(PLANT).state()) == Stock(PLANT))

    def test_copy_goes_its_own_way(self):
        stock = done(*self.ROW)
        twin = stock.copy()
        self.assertTrue(twin == stock)
        self.assertEqual(twin.state(), stock.state())
        before = stock.state()
        twin.do(("open", "b1", "kettle"))
        self.assertEqual(stock.state(), before)
        self.assertTrue("b1" in stock)
        stock.do(("wash", "pot"))
        self.assertEqual(twin.level("pot"), 6)
        self.assertFalse(twin == stock)

    def test_opened(self):
        stock = done(*self.ROW)
        state = stock.state()
        opened = Stock.opened(PLANT, state)
        self.assertEqual(opened.state(), state)
        self.assertEqual(opened.opening, state)
        self.assertEqual(opened.deeds, ())
        self.assertEqual(opened.plant, PLANT)
        self.assertEqual(opened.do(("wash", "pot")), 1)
        self.assertEqual(opened.do(("take", "l1", "pot", 1)), 2)
        self.assertEqual(opened.deeds, (("wash", "pot"), ("take", "l1", "pot", 1)))
        self.assertEqual(opened.opening, state)
        self.assertEqual(opened.units("l1"), ((10, 1), (6, 1), (1, 1)))
        self.assertTrue(opened == opened.copy())
        self.assertEqual(opened.copy().opening, state)
        self.assertFalse(opened == Stock.opened(PLANT, state))

    def test_all_goes_on_in_the_same_way_behind_an_opening(self):
        rest = [("open", "b1", "kettle"), ("take", "l3", "pot", 4), ("move", "kettle", "pot", 2), ("forget", "s1"),
                ("pack", "pot", "b9", 6), ("drain", "pot"), ("wash", "kettle")]
        whole, opened = done(*self.ROW), Stock.opened(PLANT, done(*self.ROW).state())
        for deed in rest:
            whole.do(deed)
            opened.do(deed)
            self.assertEqual(whole.state(), opened.state())

    def test_names_stay_used(self):
        opened = Stock.opened(PLANT, done(*self.ROW).state())
        for name in ["b1", "b2", "s1", "s2", "l1", "l2", "pot"]:
            with self.assertRaises(Known) as caught:
                opened.do(("pack", "pot", name, 1))
            self.assertEqual(caught.exception.name, name)
        with self.assertRaises(Known):
            opened.do(("take", "b2", "pot", 1))

    def test_names_of_lots_that_were_dropped(self):
        vessels, lots, boxes, samples, used = done(*self.ROW).state()
        state = (vessels, lots[1:], boxes, samples, (*used, "zz"))
        opened = Stock.opened(PLANT, state)
        self.assertEqual(opened.lot_names(), ("l2",))
        with self.assertRaises(Known) as caught:
            opened.do(("take", "zz", "pot", 1))
        self.assertEqual(caught.exception.name, "zz")

    def test_two_hundred_deeds_behind_an_opening(self):
        stock = done(*[("drain", "pot")] * 200)
        opened = Stock.opened(PLANT, stock.state())
        for number in range(1, 201):
            self.assertEqual(opened.do(("drain", "pot")), number)
        with self.assertRaises(LotError):
            opened.do(("drain", "pot"))


if __name__ == "__main__":
    unittest.main()
