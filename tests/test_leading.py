"""Claims that lead to others."""

import unittest
from random import Random

from proving import plant_of, shuts_again
from swornlots.cases import closed
from swornlots.claims import Claim, claim_formula
from swornlots.contents import blend
from swornlots.errors import NoClaim, Unknown
from swornlots.leading import alike, leads, order, standard
from test_claimtexts import random_claim
from test_formulas import random_world

PLANT = plant_of(2)
ALONE, HALVES = (("a", (1, 1)),), (("a", (1, 2)), ("b", (1, 2)))
ONE, FREE, CLEAN = ("single",), ("free", "nuts"), ("untouched", "nuts")
EAST, NOT_ALL_WEST = ("least", (1, 1), ("east",)), ("not", ("least", (1, 1), ("west",)))


class Leading(unittest.TestCase):
    def held(self, plant, first, second):
        """The word that is told, or the number of the content, held against [32]."""
        told = leads(plant, first, second)

        def formulas(number):
            content = standard(number)
            return [claim_formula(plant, content, first), ("not", claim_formula(plant, content, second))]

        if told[0] == "tree":
            self.assertEqual(len(told), 2)
            shuts_again(plant, standard(4)[1], formulas(4), told[1])
            self.assertTrue(closed(plant, standard(4)[1], formulas(4), told[1]))
            return "tree"
        word, number, world, trees = told
        self.assertEqual((word, world.lots, len(trees)), ("world", standard(number)[1], number - 1))
        self.assertTrue(Claim(first)(plant, standard(number), world))
        self.assertFalse(Claim(second)(plant, standard(number), world))
        for lesser, tree in enumerate(trees, start=1):
            shuts_again(plant, standard(lesser)[1], formulas(lesser), tree)
            self.assertTrue(closed(plant, standard(lesser)[1], formulas(lesser), tree))
        return number

    def test_standard(self):
        self.assertEqual([standard(k) for k in (1, 2, 3, 4)], [(ALONE, ("a",)), (ALONE, ("a", "b")), (HALVES, ("a", "b")), (HALVES, ("a", "b", "c"))])

    def test_each_content(self):
        mixed = ("or", EAST, ("least", (1, 1), ("west",)))
        touched = ("and", ("not", CLEAN), FREE)
        both = ("and", ("and", ("not", ("since", 5)), ("not", ("until", 4))), touched)
        for first, second, told in [
            (CLEAN, FREE, "tree"), (FREE, FREE, "tree"), (EAST, ONE, "tree"), (EAST, NOT_ALL_WEST, "tree"), (ONE, mixed, "tree"), (mixed, ONE, "tree"),
            (("since", 5), ("since", 4), "tree"), (("since", 4), ("since", 5), 1), (FREE, ("free", "soy"), 1), (("not", ONE), EAST, 1),
            (FREE, CLEAN, 2), (("not", CLEAN), ("not", FREE), 2), (("or", ONE, FREE), ("or", ONE, CLEAN), 2),
            (("not", ("since", 5)), ("until", 4), 3), (("and", ("not", ("since", 5)), ("not", ("until", 4))), ("and", ONE, ("not", ONE)), 3),
            (both, ("not", ("since", 0)), 4), (both, ONE, 4), (("least", (1, 2), ("east",)), ("least", (501, 1000), ("east",)), 1),
            (("and", ("not", FREE), ("not", ONE)), ("and", ("not", CLEAN), ("not", EAST)), "tree"),
        ]:
            with self.subTest(first=first, second=second):
                self.assertEqual(self.held(PLANT, first, second), told)

    def test_random(self):
        random = Random(32)
        seen = {}
        for _ in range(500):
            plant = plant_of(random.randint(2, 3))
            first, second = (random_claim(random, 2, ("nuts",)) for _ in range(2))
            if random.random() < 0.3:
                first = ("and", first, second)
            told = self.held(plant, first, second)
            seen[told] = seen.get(told, 0) + 1
            self.assertEqual(alike(plant, first, second), told == "tree" and leads(plant, second, first)[0] == "tree")
            if told == "tree":
                self.no_other_content(random, plant, first, second)
        self.assertTrue({"tree", 1, 2, 3} <= set(seen), seen)

    def no_other_content(self, random, plant, first, second):
        """No random content and world part claims of which one leads to the other."""
        lots = ["a", "b", "c", "d"]
        for _ in range(5):
            some = random.sample(lots, random.randint(1, 3))
            content = blend([((1, len(some)), (((lot, (1, 1)),), tuple(sorted({lot, random.choice(lots)})))) for lot in some])
            world = random_world(random, plant, lots)
            self.assertTrue(Claim(second)(plant, content, world) or not Claim(first)(plant, content, world))

    def test_one_farm(self):
        plant = plant_of(1)
        self.assertTrue(alike(plant, ONE, ("or", FREE, ("not", FREE))))
        self.assertEqual(self.held(plant, FREE, ONE), "tree")
        self.assertEqual(self.held(plant, ONE, FREE), 1)

    def test_alike(self):
        for first, second, told in [(FREE, FREE, True), (FREE, CLEAN, False), (CLEAN, FREE, False), (("not", ("not", FREE)), FREE, True),
                                    (("and", FREE, CLEAN), CLEAN, True), (("least", (2, 5), ("east",)), ("most", (3, 5), ("west",)), True), (EAST, ONE, False),
                                    (("least", (0, 1), ("east",)), ("or", ONE, ("not", ONE)), True)]:
            self.assertIs(alike(PLANT, first, second), told)

    def test_order(self):
        claims = [FREE, CLEAN, ("not", FREE), EAST, ONE, ("and", CLEAN, EAST), FREE]
        told = ((0, 6), (0, 1, 6), (2,), (3, 4), (4,), (0, 1, 3, 4, 5, 6), (0, 6))
        for kind in (list, tuple):
            self.assertEqual(order(PLANT, kind(claims)), told)
        self.assertEqual(order(PLANT, []), ())
        random = Random(33)
        claims = [random_claim(random, 2) for _ in range(12)]
        self.assertEqual(order(PLANT, claims), tuple(
            tuple(k for k, second in enumerate(claims) if leads(PLANT, first, second)[0] == "tree") for first in claims))

    def test_errors(self):
        strange, other = ("free", "egg"), ("least", (1, 2), ("far",))
        for told in (lambda claims: leads(PLANT, *claims[:2]), lambda claims: alike(PLANT, *claims[:2]), lambda claims: order(PLANT, claims)):
            for claims, bad in [((strange, None), None), ((("free",), None), ("free",)), ((None, strange), None)]:
                with self.assertRaises(NoClaim) as caught:
                    told(claims)
                self.assertEqual(caught.exception.claim, bad)
            for claims, name in [((strange, other), "egg"), ((FREE, other), "far"), ((other, strange), "far")]:
                with self.assertRaises(Unknown) as caught:
                    told(claims)
                self.assertEqual(caught.exception.name, name)
        with self.assertRaises(NoClaim):
            order(PLANT, [strange, FREE, FREE, 7])
        with self.assertRaises(Unknown):
            order(PLANT, [FREE, FREE, other])


if __name__ == "__main__":
    unittest.main()
