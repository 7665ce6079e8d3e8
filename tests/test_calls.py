"""Calls of boxes and letters."""

import inspect
import unittest

from proving import plant_of
from swornlots import calls as calls_file
from swornlots.calls import Call, called_boxes, calls, letters
from swornlots.claims import Claim
from swornlots.houses import House
from swornlots.traces import first_trace
from swornlots.ways import first_way

PLANT = plant_of(2)
FREE, CLEAN = ("free", "nuts"), ("untouched", "nuts")
ACTS = (
    ("do", ("take", "l1", "pot", 20)), ("do", ("pack", "pot", "b1", 20)), ("do", ("take", "l2", "pot", 30)), ("do", ("take", "l3", "kettle", 30)),
    ("do", ("move", "kettle", "pot", 20)), ("do", ("pack", "pot", "b2", 20)), ("do", ("part", "b2", "b3", 5)), ("do", ("pack", "pot", "b4", 10)),
    ("paper", ("lacks", "l1", "nuts")), ("paper", ("lacks", "l2", "nuts")), ("paper", ("lacks", "l3", "nuts")),
    ("label", "b4", CLEAN), ("label", "b3", CLEAN), ("label", "b2", FREE), ("label", "b1", FREE),
    ("send", "b4", "cid"), ("send", "b3", "ann"), ("send", "b1", "bob"),
)


class Calls(unittest.TestCase):
    def setUp(self):
        self.house = House.again(PLANT, ACTS)

    def held(self):
        """The boxes that are called back, with each call held against [34]."""
        house = self.house
        stock, papers = house.stock_now(), house.papers_now()
        told = []
        for call in calls(house):
            self.assertIsInstance(call, Call)
            told.append(call.box)
            self.assertEqual((call.customer, call.claim), (house.customer_of(call.box), house.label_of(call.box)))
            content = stock.content(call.box)
            self.assertIn(call.world, papers)
            self.assertFalse(Claim(call.claim)(PLANT, content, call.world))
            ways = []
            for lot in content[1]:
                in_mix = lot in dict(content[0])
                ways.append((lot, first_way(stock, lot, call.box) if in_mix else first_trace(stock, lot, call.box)))
            self.assertEqual(call.ways, tuple(ways))
        self.assertEqual(called_boxes(house), tuple(told))
        self.assertEqual(told, [box for box in stock.box_names() if house.label_of(box) and not house.verdict(box)])
        return told

    def test_generator(self):
        self.assertTrue(inspect.isgeneratorfunction(calls_file.calls))
        later = calls(self.house)
        self.house.withdraw(3)
        self.assertEqual([call.box for call in later], ["b2", "b3", "b4"])

    def test_calls(self):
        house = self.house
        self.assertEqual(self.held(), [])
        house.withdraw(3)
        self.assertEqual(self.held(), ["b2", "b3", "b4"])
        ways = {call.box: call.ways for call in calls(house)}
        # All of l1 went into b1, but it has touched what came behind it.
        self.assertEqual(ways["b2"], (("l1", (1, 6)), ("l2", (3, 6)), ("l3", (4, 5, 6))))
        self.assertEqual(ways["b3"], (("l1", (1, 6, 7)), ("l2", (3, 6, 7)), ("l3", (4, 5, 6, 7))))
        self.assertEqual([call.customer for call in calls(house)], ["", "ann", "cid"])
        house.amend(2, ("from", "l2", 5))
        house.amend(1, ("from", "l1", 5))
        self.assertEqual(self.held(), ["b1", "b2", "b3", "b4"])
        house.bare("b2")
        self.assertEqual(self.held(), ["b1", "b3", "b4"])

    def test_touched_only(self):
        """A lot that only touched a box breaks `untouched`, not `free`."""
        self.house.withdraw(1)
        self.assertEqual(self.held(), ["b1", "b3", "b4"])
        self.house.put_paper(("lacks", "l1", "nuts"))
        self.assertEqual(self.held(), [])

    def test_letters(self):
        house = self.house
        self.assertEqual(letters(house), ())
        house.withdraw(3)
        self.assertEqual(letters(house), (("cid", ("b4",)), ("ann", ("b3",))))
        house.withdraw(1)
        self.assertEqual(letters(house), (("cid", ("b4",)), ("ann", ("b3",)), ("bob", ("b1",))))
        house.do(("end", "b4"))
        self.assertEqual(letters(house), (("ann", ("b3",)), ("bob", ("b1",))))

    def test_letters_of_those_whose_first_box_is_gone(self):
        house = self.house
        house.label("b2", CLEAN)
        house.send("b2", "cid")
        house.do(("end", "b4"))
        house.withdraw(3)
        self.assertEqual(letters(house), (("cid", ("b2",)), ("ann", ("b3",))))

    def test_several_boxes_in_the_order_of_packing(self):
        house = self.house
        house.label("b2", CLEAN)
        house.send("b2", "ann")
        house.do(("take", "l3", "kettle", 30))
        house.do(("pack", "kettle", "a0", 5))
        house.label("a0", FREE)
        house.send("a0", "ann")
        house.withdraw(3)
        self.assertEqual(letters(house), (("cid", ("b4",)), ("ann", ("b2", "b3", "a0"))))
        self.assertEqual(self.held(), ["b2", "b3", "b4", "a0"])


if __name__ == "__main__":
    unittest.main()
