"""Claims: their trees, their formulas, what they say in a world."""

import unittest
from fractions import Fraction
from random import Random

from proving import is_true, plant_of, share
from shares import pair
from swornlots.claims import Claim, check_claim, claim_formula
from swornlots.errors import BadClaim, NoClaim, NoLot, Unknown
from swornlots.formulas import true_in
from swornlots.worlds import World
from test_claimtexts import random_claim
from test_formulas import random_world

PLANT = plant_of(2)
ONE, FREE = ("single",), ("free", "nuts")
CONTENT = ((("l1", (1, 4)), ("l2", (3, 4))), ("l0", "l1", "l2", "l3"))


def chain(levels):
    return ONE if levels == 1 else ("not", chain(levels - 1))


def wide(many):
    """A claim with so many of the first seven, as flat as can be."""
    if many == 1:
        return ONE
    return ("or", wide(many // 2), wide(many - many // 2))


class Checking(unittest.TestCase):
    def refused(self, bad):
        for told in (check_claim, Claim, lambda claim: claim_formula(PLANT, CONTENT, claim)):
            with self.assertRaises(NoClaim) as caught:
                told(bad)
            self.assertIs(caught.exception.claim, bad)

    def test_good(self):
        for good in [FREE, ONE, ("untouched", "x9"), ("least", (0, 1), ("a",)), ("most", (1, 1), ("a", "b", "c", "d", "e", "f")), ("since", 0), ("until", 99999),
                     ("least", (10 ** 39, 10 ** 39 + 1), ("a",)), ("not", FREE), ("and", FREE, ONE), ("or", ("not", ONE), ("and", ONE, ONE))]:
            self.assertIsNone(check_claim(good))

    def test_bad(self):
        half = (1, 2)
        for bad in [
            ("free",), ("free", "nuts", "soy"), ("free", "Nuts"), ("free", ""), ("free", "of"), ("free", None), ("free", ["nuts"]), ("untouched", 1), ("untouched", ("nuts",)),
            ("least", half), ("least", half, ()), ("least", half, ["a"]), ("least", half, "a"), ("least", half, ("b", "a")), ("least", half, ("a", "a")),
            ("least", half, ("a", "or")), ("least", half, (1,)), ("least", (3, 2), ("a",)), ("least", (-1, 2), ("a",)), ("least", (2, 4), ("a",)), ("most", 1, ("a",)),
            ("most", (True, 1), ("a",)), ("most", [1, 2], ("a",)), ("most", half, ("a",), ("b",)), ("most", ("a",), half), ("since",), ("since", -1), ("since", 100000),
            ("since", True), ("since", "1"), ("until", (1, 1)), ("until", 1, 2), ("until", None), ("single", 1), ("single", ()), ("not",), ("not", ONE, ONE), ("and", ONE),
            ("and", ONE, ONE, ONE), ("or", (ONE, ONE)), ("or",), ("not", None), ("not", "single"), ("bears", "l1", "nuts"), ("xor", ONE, ONE), (), None, True, 1, "single",
            ["single"], (ONE,), ("Single",), (None,), ({},), ((), ()), ("", ""),
        ]:
            for claim in (bad, ("not", bad), ("and", ONE, bad), ("or", ("and", bad, ONE), FREE)):
                with self.subTest(claim=claim):
                    self.refused(claim)
        self.refused(["not", ONE])
        self.refused(("not", ["single"]))

    def test_levels(self):
        self.assertIsNone(check_claim(chain(12)))
        self.refused(chain(13))
        self.assertIsNone(check_claim(("and", ONE, chain(11))))
        self.refused(("and", ONE, chain(12)))
        self.refused(chain(300))

    def test_width(self):
        self.assertIsNone(check_claim(wide(24)))
        self.refused(wide(25))
        self.assertIsNone(check_claim(("not", wide(24))))
        self.refused(("and", wide(24), FREE))
        doubled = ONE
        for _ in range(11):
            doubled = ("or", doubled, doubled)
        self.refused(doubled)


class Formulas(unittest.TestCase):
    def test_each(self):
        def no(trait, *lots):
            return ("and", tuple(("not", ("bears", lot, trait)) for lot in lots))

        east = ((("l1", "east"), (1, 4)), (("l2", "east"), (3, 4)))
        west = ((("l1", "west"), (1, 4)), (("l2", "west"), (3, 4)))
        both = (east[0], west[0], east[1], west[1])
        minus = tuple((unknown, (-above, below)) for unknown, (above, below) in both)
        for claim, formula in [
            (FREE, no("nuts", "l1", "l2")), (("untouched", "soy"), no("soy", "l0", "l1", "l2", "l3")), (("least", (3, 5), ("east",)), ("share", east, (3, 5))),
            (("least", (0, 1), ("east", "west")), ("share", both, (0, 1))), (("most", (3, 5), ("east", "west")), ("share", minus, (-3, 5))),
            (("since", 7), ("and", (("days", "l1", "", -7), ("days", "l2", "", -7)))), (("until", 7), ("and", (("days", "", "l1", 7), ("days", "", "l2", 7)))),
            (("since", 0), ("and", (("days", "l1", "", 0), ("days", "l2", "", 0)))), (ONE, ("or", (("share", east, (1, 1)), ("share", west, (1, 1))))),
            (("not", FREE), ("not", no("nuts", "l1", "l2"))), (("and", FREE, ("not", ("until", 0))), ("and", (no("nuts", "l1", "l2"), ("not", ("and", (
                ("days", "", "l1", 0), ("days", "", "l2", 0))))))), (("or", ("least", (1, 1), ("east",)), FREE), ("or", (("share", east, (1, 1)), no("nuts", "l1", "l2")))),
        ]:
            with self.subTest(claim=claim):
                self.assertEqual(claim_formula(PLANT, CONTENT, claim), formula)

    def test_unknown(self):
        for claim, name in [
            (("free", "egg"), "egg"), (("untouched", "east"), "east"), (("least", (1, 2), ("nuts",)), "nuts"), (("most", (1, 2), ("east", "far", "gone")), "far"),
            (("and", ("or", FREE, ("least", (1, 2), ("east", "south"))), ("free", "egg")), "south"), (("not", ("or", ("free", "egg"), ("least", (1, 2), ("a",)))), "egg"),
        ]:
            with self.assertRaises(Unknown) as caught:
                claim_formula(PLANT, CONTENT, claim)
            self.assertEqual(caught.exception.name, name)
            with self.assertRaises(NoClaim):
                claim_formula(PLANT, CONTENT, ("and", claim, None))


def holds(claim, plant, content, world):
    """Whether a claim is true, reckoned from [28] alone."""
    mix, touched = content
    word = claim[0]
    if word in ("free", "untouched"):
        return not any(world.bears(lot, claim[1]) for lot in (touched if word == "untouched" else dict(mix)))
    if word in ("since", "until"):
        days = [world.day(lot) for lot in dict(mix)]
        return min(days) >= claim[1] if word == "since" else max(days) <= claim[1]
    if word in ("least", "most", "single"):
        def part(farms):
            return sum(Fraction(*f) * Fraction(*world.share(lot, farm)) for lot, f in mix for farm in farms)
        if word == "single":
            return any(part([farm]) == 1 for farm in plant.farms)
        return part(claim[2]) >= Fraction(*claim[1]) if word == "least" else part(claim[2]) <= Fraction(*claim[1])
    truths = [holds(one, plant, content, world) for one in claim[1:]]
    return {"not": not truths[0], "and": all(truths), "or": any(truths)}[word]


class Claims(unittest.TestCase):
    def world(self, *shares, traits=((), (), (), ()), days=(0, 0, 0, 0)):
        rows = [(lot, (pair(part), pair(1 - part)), told, day) for lot, part, told, day in zip(("l0", "l1", "l2", "l3"), shares, traits, days)]
        return World(PLANT, rows)

    def says(self, claim, world, content=CONTENT):
        told = Claim(claim)(PLANT, content, world)
        self.assertIn(told, (True, False))
        self.assertEqual(told, true_in(claim_formula(PLANT, content, claim), world))
        return told

    def test_small(self):
        half = Fraction(1, 2)
        touched = self.world(half, half, half, half, traits=(("nuts",), ("soy",), (), ()), days=(0, 5, 9, 99))
        for claim, told in [(FREE, True), (("untouched", "nuts"), False), (("free", "soy"), False), (("since", 5), True), (("since", 6), False), (("until", 9), True),
                            (("until", 8), False), (ONE, False), (("least", (1, 2), ("east",)), True), (("most", (1, 2), ("east",)), True),
                            (("least", (1, 1), ("east", "west")), True), (("most", (999, 1000), ("east", "west")), False)]:
            self.assertEqual(self.says(claim, touched), told, claim)
        bounds = self.world(0, 0, Fraction(4, 5), 0)
        for claim, told in [(("least", (3, 5), ("east",)), True), (("least", (600001, 1000000), ("east",)), False), (("most", (3, 5), ("east",)), True),
                            (("most", (599999, 1000000), ("east",)), False), (("least", (2, 5), ("west",)), True), (("not", ("least", (3, 5), ("east",))), False)]:
            self.assertEqual(self.says(claim, bounds), told, claim)

    def test_single(self):
        self.assertTrue(self.says(ONE, self.world(0, 1, 1, 0)))
        self.assertTrue(self.says(ONE, self.world(0, 0, 0, 1)))
        self.assertFalse(self.says(ONE, self.world(0, 1, 0, 0)))
        self.assertFalse(self.says(ONE, self.world(1, 1, Fraction(999, 1000), 1)))
        plant = plant_of(1)
        self.assertTrue(Claim(ONE)(plant, CONTENT, World.plain(plant, CONTENT[1])))

    def test_random(self):
        random = Random(28)
        truths = []
        for _ in range(500):
            plant = plant_of(random.randint(2, 4))
            claim = random_claim(random, 3, farms=plant.farms)
            world = random_world(random, plant, CONTENT[1])
            truths.append(Claim(claim)(plant, CONTENT, world))
            self.assertEqual(truths[-1], holds(claim, plant, CONTENT, world))
            self.assertEqual(truths[-1], is_true(claim_formula(plant, CONTENT, claim), world.rows, plant.farms))
        self.assertTrue(100 < sum(truths) < 400)

    def test_errors_of_calls(self):
        short = World.plain(PLANT, ["l1", "l2"])
        with self.assertRaises(Unknown) as caught:
            Claim(("and", FREE, ("free", "egg")))(PLANT, CONTENT, short)
        self.assertEqual(caught.exception.name, "egg")
        for claim in (FREE, ONE, ("since", 4)):
            with self.assertRaises(NoLot) as caught:
                Claim(claim)(PLANT, CONTENT, short)
            self.assertEqual(caught.exception.name, "l0")
        with self.assertRaises(NoLot) as caught:
            Claim(FREE)(PLANT, CONTENT, World.plain(PLANT, ["l0", "l1"]))
        self.assertEqual(caught.exception.name, "l2")

    def test_joining(self):
        first, second = Claim(FREE), Claim.read("single")
        self.assertEqual((first & second).tree, ("and", FREE, ONE))
        self.assertEqual((first | second).tree, ("or", FREE, ONE))
        self.assertEqual((~first).tree, ("not", FREE))
        self.assertEqual((~(first & second) | ~~second).tree, ("or", ("not", ("and", FREE, ONE)), ("not", ("not", ONE))))
        self.assertEqual((first & second).text, "free nuts and single")
        self.assertEqual((first.tree, second.tree), (FREE, ONE))
        self.assertTrue(first == Claim(("free", "nuts")) and second == Claim(ONE))
        self.assertFalse(first == second or first == FREE or first == Claim.read("untouched nuts"))

    def test_joining_at_the_bounds(self):
        self.assertEqual((~Claim(chain(11))).tree, chain(12))
        with self.assertRaises(NoClaim) as caught:
            ~Claim(chain(12))
        self.assertEqual(caught.exception.claim, chain(13))
        self.assertEqual((Claim(wide(12)) & Claim(wide(12))).tree, ("and", wide(12), wide(12)))
        for told, tree in [(lambda: Claim(wide(12)) & Claim(wide(13)), ("and", wide(12), wide(13))), (lambda: Claim(wide(24)) | Claim(ONE), ("or", wide(24), ONE)),
                           (lambda: Claim(chain(12)) | Claim(ONE), ("or", chain(12), ONE))]:
            with self.assertRaises(NoClaim) as caught:
                told()
            self.assertEqual(caught.exception.claim, tree)

    def test_read(self):
        claim = Claim.read("least 2/4 of west east")
        self.assertIsInstance(claim, Claim)
        self.assertEqual((claim.tree, claim.text), (("least", (1, 2), ("east", "west")), "least 1/2 of east west"))
        with self.assertRaises(BadClaim):
            Claim.read("single ")


if __name__ == "__main__":
    unittest.main()
