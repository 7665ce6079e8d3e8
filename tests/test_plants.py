"""Plants."""

import unittest

from swornlots.errors import BadPlant, NoThing
from swornlots.plants import Plant

FARMS = ["west", "east"]
TRAITS = ["nuts"]
KETTLE = ("kettle", 100, 10)
VESSELS = [KETTLE]


class Plants(unittest.TestCase):
    def refused(self, part, farms, traits, vessels):
        with self.assertRaises(BadPlant) as caught:
            Plant(farms, traits, vessels)
        self.assertEqual(caught.exception.part, part, (farms, traits, vessels))

    def test_attributes(self):
        plant = Plant(["west", "east"], ("soy", "nuts", "egg"), [("pot", 5, 0), ("kettle", 9, 8)])
        self.assertEqual(plant.farms, ("east", "west"))
        self.assertEqual(plant.traits, ("egg", "nuts", "soy"))
        self.assertEqual(plant.vessels, (("pot", 5, 0), ("kettle", 9, 8)))

    def test_as_a_row_of_names(self):
        plant = Plant(FARMS, TRAITS, (("pot", 5, 0), ("kettle", 9, 8), ("a", 1, 0)))
        self.assertEqual(len(plant), 3)
        self.assertEqual(list(plant), ["pot", "kettle", "a"])
        self.assertEqual(list(plant), ["pot", "kettle", "a"])
        self.assertIs("kettle" in plant, True)
        for thing in ["east", "nuts", "", None, True, ["pot"], ("pot", 5, 0), {}]:
            self.assertIs(thing in plant, False)
        self.assertEqual(plant["pot"], (5, 0))
        self.assertEqual(plant["kettle"], (9, 8))
        self.assertEqual(plant["a"], (1, 0))

    def test_no_vessel(self):
        plant = Plant(FARMS, TRAITS, VESSELS)
        for name in ["pot", "east", "", None]:
            with self.assertRaises(NoThing) as caught:
                plant[name]
            self.assertEqual(caught.exception.name, name)

    def test_numbers_of_things(self):
        four = ["a", "b", "c", "d"]
        six = [("v%d" % k, 10, 0) for k in range(6)]
        Plant(["a"], [], six[:1])
        Plant(four, four, six)
        self.refused("farms", [], [], six[:1])
        self.refused("farms", four + ["e"], [], six[:1])
        self.refused("traits", ["a"], four + ["e"], six[:1])
        self.refused("vessels", ["a"], [], [])
        self.refused("vessels", ["a"], [], six + [("v6", 10, 0)])

    def test_other_kinds(self):
        for thing in ["abc", None, 5, {"a": 1}, {"a"}]:
            self.refused("farms", thing, TRAITS, VESSELS)
            self.refused("traits", FARMS, thing, VESSELS)
            self.refused("vessels", FARMS, TRAITS, thing)

    def test_names(self):
        self.refused("farms", ["east", "east"], TRAITS, VESSELS)
        self.refused("traits", FARMS, ["nuts", "nuts"], VESSELS)
        self.refused("vessels", FARMS, TRAITS, [KETTLE, ("kettle", 5, 0)])
        for name in ["", "abcdefghi", "and", "none", "East", 1, None, True, ("a",), ["a"]]:
            self.refused("farms", ["west", name], TRAITS, VESSELS)
            self.refused("traits", FARMS, [name], VESSELS)
            self.refused("vessels", FARMS, TRAITS, [KETTLE, (name, 5, 0)])
        Plant(["same"], ["same"], [("same", 5, 0)])

    def test_sizes_and_keeps(self):
        for size, keep in [(1, 0), (10000, 0), (10000, 9999), (2, 1)]:
            self.assertEqual(Plant(FARMS, TRAITS, [("v", size, keep)])["v"], (size, keep))
        for size, keep in [
            (0, 0), (10001, 0), (-1, 0), (5, 5), (5, -1), (10000, 10000), (1, 1), (True, 0), (5, False), (5, True),
            ("5", 0), (5, None), (5.0, 0),
        ]:
            self.refused("vessels", FARMS, TRAITS, [("v", size, keep)])

    def test_forms_of_vessels(self):
        for vessel in [["v", 5, 0], ("v", 5), ("v", 5, 0, 0), "v", None, 5, (), ("v",)]:
            self.refused("vessels", FARMS, TRAITS, [vessel])

    def test_the_first_part_that_is_bad(self):
        self.refused("farms", [], ["and"], [])
        self.refused("traits", FARMS, ["and"], [])

    def test_lists_are_copied(self):
        farms, traits, vessels = ["west", "east"], ["soy", "nuts"], [KETTLE]
        plant = Plant(farms, traits, vessels)
        self.assertEqual((farms, traits, vessels), (["west", "east"], ["soy", "nuts"], [KETTLE]))
        farms.append("north")
        traits.clear()
        vessels[0] = ("pot", 1, 0)
        self.assertEqual(plant.farms, ("east", "west"))
        self.assertEqual(plant.traits, ("nuts", "soy"))
        self.assertEqual(plant.vessels, (KETTLE,))
        self.assertEqual(list(plant), ["kettle"])

    def test_equal(self):
        plant = Plant(FARMS, ["a", "b"], [KETTLE, ("pot", 5, 0)])
        self.assertTrue(plant == Plant(("east", "west"), ("b", "a"), (KETTLE, ("pot", 5, 0))))
        self.assertFalse(plant == Plant(FARMS, ["a", "b"], [("pot", 5, 0), KETTLE]))
        self.assertFalse(plant == Plant(FARMS, ["a"], [KETTLE, ("pot", 5, 0)]))
        self.assertFalse(plant == Plant(["east"], ["a", "b"], [KETTLE, ("pot", 5, 0)]))
        for other in [None, "plant", plant.vessels, 1, True]:
            self.assertFalse(plant == other)
            self.assertTrue(plant != other)


if __name__ == "__main__":
    unittest.main()
