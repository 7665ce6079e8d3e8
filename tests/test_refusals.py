"""The errors of a deed, and their order."""

import unittest

from model import stock_of
from swornlots.errors import BadDeed, Empty, Full, Known, NoThing, Short, TooMany
from swornlots.forms import RESERVED
from swornlots.plants import Plant

PLANT = Plant(["east"], [], [("kettle", 10000, 10), ("pot", 50, 0), ("vat", 20, 5)])


def done(*deeds, plant=PLANT):
    return stock_of(plant, deeds)


class Refusals(unittest.TestCase):
    def refused(self, stock, deed, kind, told):
        before = (stock.state(), stock.deeds, stock.standing())
        with self.assertRaises(kind) as caught:
            stock.do(deed)
        (value,) = [value for key, value in vars(caught.exception).items() if key != "class_name"]
        self.assertEqual(value, told)
        self.assertEqual((stock.state(), stock.deeds, stock.standing()), before)

    def bad(self, deed):
        stock = done(("take", "l1", "pot", 20), ("pack", "pot", "b1", 5), ("sample", "pot", "s1"))
        before = stock.state()
        with self.assertRaises(BadDeed) as caught:
            stock.do(deed)
        self.assertIs(caught.exception.deed, deed)
        self.assertEqual(stock.state(), before)

    def test_forms(self):
        for deed in [
            (), None, "wash", 5, True, ("cook", "pot"), (("wash",), "pot"), (1, "pot"), (["wash"], "pot"), ("wash",),
            ("wash", "pot", "pot"), ["wash", "pot"], ["take", "l1", "pot", 5], ("take", "l1", "pot"),
            ("take", "l1", "pot", 5, 5), ("take", "l1", 5, "pot"), ("move", "pot", "vat"), ("drain", "pot", 1), ("drain",),
            ("pack", "pot", "b2"), ("part", "b1", "b2"), ("open", "b1"), ("open", "b1", "pot", 5), ("end",),
            ("end", "b1", 1), ("sample", "pot"), ("sample", "pot", "s2", 1), ("forget",), ("forget", "s1", 1), {"wash": "pot"},
            ("WASH", "pot"), ("wash ", "pot"), (True, "pot"), (None, "pot"),
        ]:
            with self.subTest(deed=deed):
                self.bad(deed)

    def test_numbers(self):
        for n in [0, -1, 10001, True, False, None, "5", 1.0, (5,), [5]]:
            for deed in [("take", "l1", "pot", n), ("move", "pot", "vat", n), ("pack", "pot", "b2", n),
                         ("part", "b1", "b2", n)]:
                self.bad(deed)

    def test_names(self):
        for name in ["", "abcdefghi", "Pot", "1a", "a b", None, 5, True, ("pot",), ["pot"], *RESERVED]:
            for deed in [
                ("take", name, "pot", 1), ("take", "l1", name, 1), ("move", name, "pot", 1), ("move", "pot", name, 1),
                ("drain", name), ("wash", name), ("pack", name, "b2", 1), ("pack", "pot", name, 1), ("part", name, "b2", 1),
                ("part", "b1", name, 1), ("open", name, "pot"), ("open", "b1", name), ("end", name), ("sample", name, "s2"),
                ("sample", "pot", name), ("forget", name),
            ]:
                self.bad(deed)

    def test_move_to_itself_whatever_it_names(self):
        self.bad(("move", "pot", "pot", 1))
        self.bad(("move", "b1", "b1", 1))
        self.bad(("move", "nowhere", "nowhere", 1))

    def test_two_hundred_deeds(self):
        stock = done(*[("drain", "pot")] * 199)
        self.assertEqual(stock.do(("take", "l1", "pot", 5)), 200)
        self.refused(stock, ("drain", "pot"), TooMany, "deed")
        self.refused(stock, ("drain", "nowhere"), TooMany, "deed")
        self.refused(stock, ("pack", "pot", "l1", 99), TooMany, "deed")
        self.refused(stock, ("drain", "Pot"), BadDeed, ("drain", "Pot"))
        self.assertEqual(len(stock.deeds), 200)

    def test_what_is_not_there(self):
        stock = done(("take", "l1", "pot", 20), ("pack", "pot", "b1", 5), ("sample", "pot", "s1"), ("pack", "pot", "gone", 5),
                     ("end", "gone"), ("sample", "pot", "past"), ("forget", "past"))
        for deed, name in [
            (("take", "l9", "b1", 1), "b1"), (("take", "pot", "nix", 1), "nix"), (("take", "l1", "l1", 1), "l1"),
            (("move", "b1", "nix", 1), "b1"), (("move", "pot", "nix", 1), "nix"), (("move", "s1", "pot", 1), "s1"),
            (("drain", "b1"), "b1"), (("wash", "l1"), "l1"), (("wash", "gone"), "gone"),
            (("pack", "b1", "b2", 1), "b1"), (("pack", "nix", "b1", 1), "nix"),
            (("part", "pot", "b2", 1), "pot"), (("part", "gone", "b1", 1), "gone"), (("part", "s1", "b2", 1), "s1"),
            (("open", "gone", "nix"), "gone"), (("open", "b1", "nix"), "nix"), (("open", "b1", "b1"), "b1"),
            (("open", "pot", "pot"), "pot"),
            (("end", "pot"), "pot"), (("end", "gone"), "gone"), (("end", "l1"), "l1"),
            (("sample", "s1", "s2"), "s1"), (("sample", "l1", "s2"), "l1"), (("sample", "gone", "s2"), "gone"),
            (("forget", "past"), "past"), (("forget", "b1"), "b1"), (("forget", "pot"), "pot"),
        ]:
            with self.subTest(deed=deed):
                self.refused(stock, deed, NoThing, name)

    def test_used_names(self):
        stock = done(("take", "l1", "pot", 20), ("pack", "pot", "b1", 5), ("sample", "pot", "s1"), ("pack", "pot", "gone", 5),
                     ("end", "gone"), ("sample", "pot", "past"), ("forget", "past"))
        for name in ["l1", "b1", "s1", "gone", "past", "pot", "kettle"]:
            self.refused(stock, ("pack", "pot", name, 999), Known, name)
            self.refused(stock, ("part", "b1", name, 999), Known, name)
            self.refused(stock, ("sample", "pot", name), Known, name)
            self.refused(stock, ("sample", "kettle", name), Known, name)
            if name != "l1":
                self.refused(stock, ("take", name, "pot", 999), Known, name)

    def test_lots(self):
        stock = done(*[("take", "l%d" % k, "pot", 1) for k in range(12)])
        self.assertEqual(len(stock.lot_names()), 12)
        self.refused(stock, ("take", "l12", "pot", 1), TooMany, "lot")
        self.refused(stock, ("take", "l12", "pot", 9999), TooMany, "lot")
        self.refused(stock, ("take", "pot", "pot", 9999), Known, "pot")
        self.refused(stock, ("take", "l12", "nix", 9999), NoThing, "nix")
        self.refused(stock, ("take", "l1", "pot", 9999), Full, "pot")
        stock.do(("take", "l1", "pot", 1))

    def test_boxes(self):
        stock = done(("take", "l1", "pot", 50), *[("pack", "pot", "b%d" % k, 2) for k in range(16)])
        self.assertEqual(len(stock.box_names()), 16)
        self.refused(stock, ("pack", "pot", "b16", 1), TooMany, "box")
        self.refused(stock, ("part", "b1", "b16", 1), TooMany, "box")
        self.refused(stock, ("pack", "pot", "b16", 999), TooMany, "box")
        self.refused(stock, ("part", "b1", "b16", 999), TooMany, "box")
        self.refused(stock, ("pack", "pot", "b1", 999), Known, "b1")
        self.refused(stock, ("part", "b1", "b1", 999), Known, "b1")
        self.refused(stock, ("part", "b16", "b1", 999), NoThing, "b16")
        stock.do(("end", "b3"))
        stock.do(("part", "b1", "b16", 1))
        self.refused(stock, ("pack", "pot", "b17", 1), TooMany, "box")
        stock.do(("open", "b4", "pot"))
        stock.do(("pack", "pot", "b17", 1))
        self.assertEqual(len(stock.box_names()), 16)

    def test_samples(self):
        stock = done(("take", "l1", "pot", 50), *[("sample", "pot", "s%d" % k) for k in range(12)])
        self.assertEqual(len(stock.sample_names()), 12)
        self.refused(stock, ("sample", "pot", "s12"), TooMany, "sample")
        self.refused(stock, ("sample", "kettle", "s12"), TooMany, "sample")
        self.refused(stock, ("sample", "kettle", "s1"), Known, "s1")
        self.refused(stock, ("sample", "nix", "s1"), NoThing, "nix")
        stock.do(("forget", "s0"))
        self.refused(stock, ("sample", "kettle", "s12"), Empty, "kettle")
        stock.do(("sample", "pot", "s12"))
        self.refused(stock, ("sample", "pot", "s13"), TooMany, "sample")
        self.refused(stock, ("sample", "pot", "s0"), Known, "s0")

    def test_empty(self):
        stock = done(("take", "l1", "pot", 5), ("drain", "pot"))
        self.refused(stock, ("sample", "pot", "s1"), Empty, "pot")
        self.refused(stock, ("sample", "kettle", "s1"), Empty, "kettle")
        stock.do(("take", "l1", "pot", 1))
        stock.do(("sample", "pot", "s1"))

    def test_short_of_vessels(self):
        stock = done(("take", "l1", "kettle", 15), ("take", "l1", "pot", 4), ("take", "l1", "vat", 3))
        self.refused(stock, ("move", "kettle", "pot", 6), Short, "kettle")
        self.refused(stock, ("pack", "kettle", "b1", 6), Short, "kettle")
        self.refused(stock, ("pack", "vat", "b1", 1), Short, "vat")
        self.refused(stock, ("move", "vat", "pot", 1), Short, "vat")
        self.refused(stock, ("move", "pot", "vat", 5), Short, "pot")
        # Too little stuff goes ahead of too little room.
        self.refused(stock, ("move", "kettle", "pot", 10000), Short, "kettle")
        stock.do(("move", "kettle", "pot", 4))
        stock.do(("pack", "kettle", "b1", 1))
        self.refused(stock, ("pack", "kettle", "b2", 1), Short, "kettle")
        stock.do(("pack", "pot", "b3", 8))
        self.assertEqual(stock.level("pot"), 0)
        self.refused(stock, ("pack", "pot", "b4", 1), Short, "pot")
        self.refused(stock, ("move", "pot", "vat", 1), Short, "pot")

    def test_short_of_boxes(self):
        stock = done(("take", "l1", "pot", 20), ("pack", "pot", "b1", 5), ("pack", "pot", "b2", 1))
        self.refused(stock, ("part", "b1", "b3", 5), Short, "b1")
        self.refused(stock, ("part", "b2", "b3", 1), Short, "b2")
        stock.do(("part", "b1", "b3", 4))
        self.assertEqual((stock.amount("b1"), stock.amount("b3")), (1, 4))
        self.refused(stock, ("part", "b1", "b4", 1), Short, "b1")

    def test_full(self):
        stock = done(("take", "l1", "pot", 45), ("take", "l1", "kettle", 100), ("pack", "kettle", "b1", 6))
        self.refused(stock, ("take", "l1", "pot", 6), Full, "pot")
        self.refused(stock, ("take", "l2", "pot", 6), Full, "pot")
        self.refused(stock, ("move", "kettle", "pot", 6), Full, "pot")
        self.refused(stock, ("open", "b1", "pot"), Full, "pot")
        self.assertFalse("l2" in stock)
        stock.do(("part", "b1", "b2", 1))
        stock.do(("open", "b1", "pot"))
        self.assertEqual(stock.level("pot"), 50)
        self.refused(stock, ("take", "l1", "pot", 1), Full, "pot")
        self.refused(stock, ("open", "b2", "pot"), Full, "pot")
        self.refused(stock, ("move", "kettle", "pot", 1), Full, "pot")
        stock.do(("pack", "pot", "b3", 1))
        stock.do(("move", "kettle", "pot", 1))

    def test_greatest_and_least_numbers(self):
        stock = done(("take", "l1", "kettle", 10000), ("drain", "kettle"), ("take", "l1", "pot", 1), ("take", "l1", "pot", 49))
        self.refused(stock, ("take", "l1", "kettle", 10000), Full, "kettle")
        self.refused(stock, ("move", "kettle", "pot", 10000), Short, "kettle")
        self.refused(stock, ("pack", "kettle", "b1", 10000), Short, "kettle")
        stock.do(("take", "l1", "kettle", 9990))
        self.refused(stock, ("take", "l1", "kettle", 1), Full, "kettle")
        stock.do(("pack", "kettle", "b1", 9990))
        self.refused(stock, ("part", "b1", "b2", 10000), Short, "b1")
        self.refused(stock, ("part", "b1", "b2", 9990), Short, "b1")
        stock.do(("part", "b1", "b2", 9989))
        stock.do(("open", "b2", "kettle"))
        self.refused(stock, ("open", "b1", "pot"), Full, "pot")


if __name__ == "__main__":
    unittest.main()
