"""Worlds."""

import unittest

from proving import plant_of
from swornlots.errors import BadWorld, NoLot
from swornlots.plants import Plant
from swornlots.worlds import World

PLANT = plant_of(2)
HALF = ((1, 2), (1, 2))
L1 = ("l1", HALF, ("nuts", "soy"), -3)
L2 = ("l2", ((0, 1), (1, 1)), (), 10 ** 39)


class Worlds(unittest.TestCase):
    def test_what_it_tells(self):
        rows = [L2, L1]
        world = World(PLANT, rows)
        self.assertTrue(world.plant == PLANT)
        self.assertEqual(world.rows, (L1, L2))
        self.assertEqual(world.lots, ("l1", "l2"))
        self.assertEqual((list(world), len(world)), (["l1", "l2"], 2))
        self.assertEqual((world["l1"], world["l2"]), (L1, L2))
        self.assertEqual((world.share("l1", "east"), world.share("l2", "west"), world.share("l2", "east")), ((1, 2), (1, 1), (0, 1)))
        self.assertEqual((world.bears("l1", "soy"), world.bears("l2", "soy")), (True, False))
        self.assertEqual((world.day("l1"), world.day("l2")), (-3, 10 ** 39))
        rows.clear()
        self.assertEqual(len(world), 2)

    def test_in(self):
        world = World(PLANT, (L1,))
        self.assertIn("l1", world)
        for other in ["l2", "", None, 1, ["l1"], L1]:
            self.assertFalse(other in world)

    def test_equal(self):
        world = World(PLANT, [L1, L2])
        self.assertTrue(world == World(plant_of(2), (L2, L1)))
        self.assertFalse(world == World(PLANT, [L1]) or world == World(PLANT, [L1, ("l2", HALF, (), 0)]) or world == world.rows)
        other = Plant(["east", "west"], ["nuts", "soy"], [("kettle", 1000, 10)])
        self.assertFalse(world == World(other, [L1, L2]))
        self.assertFalse(World(PLANT, ()) == World(other, ()))

    def test_bad_rows(self):
        for bad in [
            ("l3", ((1, 2), (1, 3)), (), 0), ("l3", ((-1, 2), (3, 2)), (), 0), ("l3", ((1, 1),), (), 0), ("l3", ((1, 2), (1, 2), (0, 1)), (), 0),
            ("l3", ((2, 4), (1, 2)), (), 0), ("l3", [(1, 2), (1, 2)], (), 0), ("l3", (1, 0), (), 0), ("l3", None, (), 0),
            ("l3", HALF, ("soy", "nuts"), 0), ("l3", HALF, ("nuts", "nuts"), 0), ("l3", HALF, ("egg",), 0), ("l3", HALF, ["nuts"], 0),
            ("l3", HALF, "nuts", 0), ("l3", HALF, None, 0), ("l3", HALF, (1,), 0), ("l3", HALF, (["nuts"],), 0),
            ("l3", HALF, (), True), ("l3", HALF, (), "0"), ("l3", HALF, (), (0, 1)), ("l3", HALF, (), 1.0),
            ("L3", HALF, (), 0), ("", HALF, (), 0), ("of", HALF, (), 0), (3, HALF, (), 0), (["l3"], HALF, (), 0),
            ("l3", HALF, ()), ("l3", HALF, (), 0, 0), ["l3", HALF, (), 0], (), None, "l3", 7, L1,
        ]:
            for place, rows in [(1, [L1, bad]), (2, (L2, L1, bad, bad, L1))]:
                with self.subTest(bad=bad, place=place):
                    with self.assertRaises(BadWorld) as caught:
                        World(PLANT, rows)
                    self.assertEqual(caught.exception.place, place)
        with self.assertRaises(BadWorld) as caught:
            World(PLANT, [("l1", HALF, (), 7), L2, L1])
        self.assertEqual(caught.exception.place, 2)

    def test_no_lot(self):
        world = World(PLANT, [L1])
        for told in (lambda lot: world[lot], lambda lot: world.share(lot, "east"), lambda lot: world.bears(lot, "nuts"), world.day):
            for lot in ("l2", "", None, 0, ["l1"]):
                with self.assertRaises(NoLot) as caught:
                    told(lot)
                self.assertEqual(caught.exception.name, lot)

    def test_changed(self):
        world = World(PLANT, [L1, L2])
        row = ("l1", ((1, 1), (0, 1)), (), 4)
        self.assertEqual(world.changed(row).rows, (row, L2))
        self.assertEqual(world.changed(("l0", *row[1:])).rows, (("l0", *row[1:]), L1, L2))
        self.assertEqual(world.rows, (L1, L2))
        for bad in [("l1", HALF, (), True), None, ["l1", HALF, (), 0], ("l1", HALF, ("egg",), 0)]:
            with self.assertRaises(BadWorld) as caught:
                world.changed(bad)
            self.assertEqual(caught.exception.place, 0)
        self.assertEqual(world.rows, (L1, L2))

    def test_plain(self):
        world = World.plain(plant_of(3), ["l2", "l1"])
        # The farms of the plant are east, north, west.
        self.assertEqual(world.rows, tuple((lot, ((1, 1), (0, 1), (0, 1)), (), 0) for lot in ("l1", "l2")))
        self.assertEqual(World.plain(plant_of(1), ("l1",)).rows, (("l1", ((1, 1),), (), 0),))
        self.assertEqual(World.plain(PLANT, ()).rows, ())
        self.assertEqual((World(PLANT, ()).lots, len(World(PLANT, [])), list(World(PLANT, []))), ((), 0, []))


if __name__ == "__main__":
    unittest.main()
