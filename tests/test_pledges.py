"""Claims that are kept on boxes and rests, and pledges that hold up."""

import unittest
from fractions import Fraction
from random import Random

from cooking import outcome, plant_with, rested, small_recipe
from proving import is_true, shuts_again
from shares import pair
from swornlots.cases import closed
from swornlots.claims import Claim, claim_formula
from swornlots.contents import only
from swornlots.errors import LotError
from swornlots.maps import can_run, map_of, standings
from swornlots.pledges import hold_up, judge_box, judge_rest, standard_stock
from swornlots.recipes import Recipe
from swornlots.worlds import World
from test_claimtexts import random_claim

PLANT = plant_with()
FREE, CLEAN, EAST, LATE = ("free", "nuts"), ("untouched", "nuts"), ("least", (1, 2), ("east",)), ("since", 3)
FILL = Recipe(("s",), (("take", "s", "kettle", 30), ("pack", "kettle", 20), ("drain", "kettle")))
BOTH = Recipe(("s", "t"), (("take", "s", "kettle", 40), ("take", "t", "pot", 20), ("move", "kettle", "pot", 20), ("pack", "pot", 20), ("pack", "kettle", 10), ("drain", "pot"), ("drain", "kettle")))
NONE = (None, None, None)


class Standard(unittest.TestCase):
    def test_stock(self):
        self.assertEqual(standard_stock(PLANT, FILL, ()), (("s0",), ()))
        self.assertEqual(standard_stock(PLANT, Recipe((), (("drain", "pot"),)), ()), ((), ()))
        lots, rests = standard_stock(PLANT, BOTH, ("kettle", "pot", "tub"))
        self.assertEqual(lots, ("s0", "s1"))
        half = (1, 2)
        self.assertEqual(rests, (((("a0", half), ("b0", half)), ("a0", "b0", "c0")), ((), ("a1", "b1", "c1")), ((("a2", half), ("b2", half)), ("a2", "b2", "c2"))))
        self.assertEqual(standard_stock(PLANT, BOTH, ("tub",)), (("s0", "s1"), (rests[2],)))
        self.assertEqual(standard_stock(plant_with((("a", 5, 1),)), FILL, ("a",))[1], (rests[0],))


class Judged(unittest.TestCase):
    def held(self, recipe, standing, needs, pledges, place, claim, plant=PLANT):
        """The word of a judgement that is held against [40]; place is the number of a box or the name of a vessel."""
        judge = judge_rest if isinstance(place, str) else judge_box
        told = judge(plant, recipe, standing, needs, pledges, place, claim)
        lots, rests = standard_stock(plant, recipe, standing)
        made = map_of(plant, recipe, standing)
        boxes, after = made.put_on((lots,), rests)
        content = dict(zip(made.end, after))[place] if isinstance(place, str) else boxes[place]
        pledged = dict(zip(plant, pledges))
        given = [claim_formula(plant, only(lot), need) for lot, need in zip(lots, needs) if need is not None]
        given += [claim_formula(plant, rest, pledged[name]) for name, rest in zip(standing, rests) if pledged[name] is not None]
        formulas = [*given, ("not", claim_formula(plant, content, claim))]
        numbers = [list(plant).index(name) for name in standing]
        all_lots = [*lots, *[f"{letter}{number}" for number in numbers for letter in "abc"]]
        word, shown = told
        if word == "kept":
            shuts_again(plant, all_lots, formulas, shown)
            self.assertTrue(closed(plant, all_lots, formulas, shown))
        else:
            self.assertEqual(word, "broken")
            self.assertIsInstance(shown, World)
            self.assertEqual(shown.lots, tuple(sorted(all_lots)))
            for formula in formulas:
                self.assertTrue(is_true(formula, shown.rows, plant.farms))
        return word

    def test_boxes(self):
        for standing, needs, pledges, claim, word in [
            ((), (FREE,), NONE, FREE, "kept"), ((), (None,), NONE, FREE, "broken"), ((), (FREE,), NONE, CLEAN, "kept"), (("kettle",), (FREE,), NONE, FREE, "broken"),
            (("kettle",), (FREE,), (FREE, None, None), FREE, "kept"), (("kettle",), (FREE,), (FREE, None, None), CLEAN, "broken"), (("kettle",), (FREE,), (CLEAN, None, None), CLEAN, "kept"),
            (("kettle",), (FREE,), (CLEAN, None, None), FREE, "kept"), (("pot",), (FREE,), NONE, CLEAN, "kept"), (("kettle", "pot", "tub"), (LATE,), (LATE, None, None), ("since", 2), "kept"),
            (("kettle",), (EAST,), (EAST, None, None), EAST, "kept"), (("kettle",), (("least", (2, 3), ("east",)),), NONE, EAST, "kept"),
            (("kettle",), (("least", (3, 5), ("east",)),), NONE, EAST, "broken"), (("kettle",), (EAST,), NONE, ("single",), "broken"), ((), (("single",),), NONE, ("single",), "kept"),
            # What cannot be needed keeps everything.
            ((), (("and", FREE, ("not", FREE)),), NONE, CLEAN, "kept"), (("tub",), (None,), (None, None, ("and", FREE, ("not", FREE))), ("until", 0), "kept"),
            (("kettle",), (None,), (None, None, ("and", FREE, ("not", FREE))), ("until", 0), "broken"),
        ]:
            with self.subTest(standing=standing, needs=needs, pledges=pledges, claim=claim):
                self.assertEqual(self.held(FILL, standing, needs, pledges, 0, claim), word)

    def test_rests(self):
        for standing, needs, pledges, vessel, claim, word in [
            ((), (FREE, None), NONE, "kettle", FREE, "kept"), ((), (None, FREE), NONE, "kettle", FREE, "broken"), (("kettle",), (FREE, None), NONE, "kettle", FREE, "broken"),
            (("kettle",), (FREE, None), (FREE, None, None), "kettle", FREE, "kept"), (("pot", "tub"), (FREE, None), (None, None, CLEAN), "tub", CLEAN, "kept"),
            (("tub",), (FREE, None), NONE, "tub", CLEAN, "broken"),
        ]:
            with self.subTest(standing=standing, vessel=vessel):
                self.assertEqual(self.held(BOTH, standing, needs, pledges, vessel, claim), word)
        self.assertEqual(self.held(BOTH, (), (FREE, FREE), NONE, 0, CLEAN), "kept")
        self.assertEqual(self.held(BOTH, ("pot",), (FREE, FREE), NONE, 0, CLEAN), "broken")
        self.assertEqual(self.held(BOTH, ("pot",), (FREE, FREE), NONE, 0, FREE), "kept")

    def test_random_ones(self):
        """What is kept is true of all that stocks really make, if needs and pledges are."""
        random = Random(7)
        found = {"kept": 0, "broken": 0}
        tried = 0
        while min(found.values()) < 60:
            recipe = small_recipe(random, PLANT, ("s", "t"))
            standing = random.choice(standings(PLANT))
            if not can_run(PLANT, recipe, standing):
                continue
            made = map_of(PLANT, recipe, standing)
            places = [*range(len(made.boxes)), *[name for name in made.end if name != "pot"]]
            if not places:
                continue
            claim = random_claim(random, 1)
            needs = tuple(random.choice([claim, claim, random_claim(random, 1), None]) for _ in range(2))
            pledges = [random.choice([claim, claim, random_claim(random, 1), None]) for _ in range(3)]
            pledges[1] = None
            place = random.choice(places)
            word = self.held(recipe, standing, needs, tuple(pledges), place, claim)
            found[word] += 1
            if word == "kept":
                tried += self.really(random, recipe, standing, needs, pledges, place, claim)
        self.assertGreater(tried, 100)

    def really(self, random, recipe, standing, needs, pledges, place, claim):
        """How often the claim was true of what a stock made, where needs and pledges were."""
        tried = 0
        for _ in range(20):
            stock = rested(random, PLANT, standing)
            lots = tuple(random.sample(["q1", "m1", "m2", "m3"], 2))
            names = {*stock.lot_names(), *lots}
            rests = {name: stock.content(name) for name in standing}
            least, most = random.choice([(0, 4), (1, 3), (4, 4)])
            rows = []
            for lot in names:
                east = Fraction(random.randint(least, most), 4)
                traits = tuple(sorted(trait for trait in PLANT.traits if random.random() < 0.2))
                rows.append((lot, (pair(east), pair(1 - east)), traits, random.randint(0, 5)))
            world = World(PLANT, rows)
            given = [Claim(need)(PLANT, only(lot), world) for lot, need in zip(lots, needs) if need]
            given += [Claim(pledge)(PLANT, rests[name], world) for name, pledge in zip(PLANT, pledges) if pledge and name in rests]
            if not all(given):
                continue
            row = recipe(stock, lots, tuple(f"b{k}" for k in range(17)))
            packed = [deed[2] for deed in row if deed[0] == "pack"]
            content = stock.content(place if isinstance(place, str) else packed[place])
            self.assertTrue(Claim(claim)(PLANT, content, world))
            tried += 1
        return tried

    def test_large(self):
        """Four slots, six vessels that rest, claims with many parts."""
        vessels = tuple((f"v{k}", 1000, 10) for k in range(6))
        plant = plant_with(vessels, farms=4, traits=4)
        steps = [("take", slot, f"v{k}", 100) for k, slot in enumerate("stuv")] + [("move", f"v{k}", "v5", 50) for k in range(4)]
        steps += [("pack", "v5", 100)] + [("drain", f"v{k}") for k in range(6)]
        recipe = Recipe(tuple("stuv"), tuple(steps))
        claim = FREE
        for part in [("least", (1, 4), ("east", "west")), ("untouched", "egg"), ("until", 9), ("most", (3, 4), ("north",)), LATE]:
            claim = ("and", claim, part)
        standing = tuple(plant)
        self.assertEqual(self.held(recipe, standing, (claim,) * 4, (claim,) * 6, 0, claim, plant), "kept")
        self.assertEqual(self.held(recipe, standing, (claim,) * 4, (None,) + (claim,) * 5, 0, claim, plant), "broken")
        self.assertIsNone(hold_up(plant, [recipe] * 2, [(claim,) * 4] * 2, (claim,) * 6))


class Refused(unittest.TestCase):
    def refused(self, told, needs=(FREE,), pledges=NONE, claim=FREE, recipe=FILL, standing=(), box=0, vessel="kettle"):
        for judge, place in ((judge_box, box), (judge_rest, vessel)):
            with self.subTest(judge=judge.__name__, told=told):
                self.assertEqual(outcome(lambda: judge(PLANT, recipe, standing, needs, pledges, place, claim)), told)

    def test_needs(self):
        for needs, slot in [((), 1), ((FREE, FREE), 1), (("free nuts",), 0), ((0,), 0), (((),), 0), ((["free", "nuts"],), 0), ((False,), 0), ((("free",),), 0), (("x", FREE), 0)]:
            self.refused(("BadNeed", slot), needs=needs, pledges=(), claim=None)
        for needs, slot in [((), 2), ((None,), 2), ((None, 7), 1), ((7, 7), 0), ((None, None, None), 2), ((None, None, 7), 2), ((None, 7, None), 1)]:
            self.refused(("BadNeed", slot), needs=needs, recipe=BOTH)

    def test_pledges(self):
        for pledges, vessel in [((), "tub"), ((None, None), "tub"), ((None,) * 4, "tub"), ((None, FREE, None), "pot"), ((7, FREE, None), "kettle"), ((None, None, ()), "tub"),
                                ((None, FREE), "pot"), (("x",), "kettle"), ((None, False, None), "pot"), ((["free", "nuts"], None, None), "kettle"), ((None, None, None, 7), "tub")]:
            self.refused(("BadPledge", vessel), pledges=pledges, claim=None)

    def test_claims(self):
        for claim in (None, (), "free nuts", ["free", "nuts"], ("free",), ("since", -1)):
            self.refused(("NoClaim", claim), needs=(("free", "egg"),), claim=claim)

    def test_unknown_names(self):
        egg, fig, north = ("free", "egg"), ("untouched", "fig"), ("least", (1, 2), ("east", "north"))
        self.refused(("Unknown", "egg"), needs=(egg,), pledges=(fig, None, None), claim=north, recipe=FILL, standing=("kettle", "x"))
        self.refused(("Unknown", "fig"), pledges=(fig, None, north), claim=egg)
        self.refused(("Unknown", "north"), pledges=(None, None, north), claim=egg)
        self.refused(("Unknown", "north"), claim=("and", FREE, north), recipe=Recipe(("s",), (("drain", "bowl"),)))
        self.refused(("Unknown", "fig"), needs=(None, fig), pledges=(egg, None, None), recipe=BOTH)

    def test_errors_of_maps(self):
        self.refused(("NoThing", "bowl"), recipe=Recipe(("s",), (("drain", "bowl"),)), box=9, vessel="x")
        self.refused(("Unrested", "kettle"), recipe=Recipe(("s",), (("take", "s", "kettle", 5),)), box=9, vessel="x")

    def test_things(self):
        for box in (1, 2, -1, 99):
            self.assertEqual(outcome(lambda: judge_box(PLANT, FILL, ("pot",), (FREE,), NONE, box, FREE)), ("NoThing", box))
        for vessel in ("pot", "tub", "bowl", "s0", ""):
            self.assertEqual(outcome(lambda: judge_rest(PLANT, FILL, ("pot",), (FREE,), NONE, vessel, FREE)), ("NoThing", vessel))
        self.assertEqual(outcome(lambda: judge_box(PLANT, Recipe((), (("drain", "pot"),)), (), (), NONE, 0, FREE)), ("NoThing", 0))

    def test_errors_of_hold_up(self):
        for recipes, needs, pledges, told in [
            ([FILL, BOTH], [(FREE,), (FREE,)], (), ("BadNeed", 2)), ([FILL, BOTH], [(7,), ()], (), ("BadNeed", 0)), ([FILL, BOTH], [(None,), (None, 7)], (), ("BadNeed", 1)),
            ([FILL], [(("free", "egg"),)], (None, FREE, None), ("BadPledge", "pot")), ([FILL], [(("free", "egg"),)], (None, None), ("BadPledge", "tub")),
            ([FILL, FILL], [(FREE,), (("free", "egg"),)], (("free", "fig"), None, None), ("Unknown", "egg")), ([FILL], [(FREE,)], (FREE, None, ("free", "fig")), ("Unknown", "fig")),
            ([], [], (7, None, None), ("BadPledge", "kettle")), ([], [], (None, None, ("free", "fig")), ("Unknown", "fig")),
        ]:
            self.assertEqual(outcome(lambda: hold_up(PLANT, recipes, needs, pledges)), told)
            self.assertEqual(outcome(lambda: hold_up(PLANT, tuple(recipes), tuple(needs), pledges)), told)


class HoldingUp(unittest.TestCase):
    def held(self, recipes, needs, pledges, plant=PLANT):
        """What hold_up tells, held against [41]."""
        told = hold_up(plant, recipes, needs, pledges)
        found = None
        for number, (recipe, need) in enumerate(zip(recipes, needs)):
            for standing in standings(plant):
                try:
                    made = map_of(plant, recipe, standing)
                except LotError:
                    continue
                for vessel in made.end:
                    pledge = dict(zip(plant, pledges))[vessel]
                    if pledge is not None and found is None and judge_rest(plant, recipe, standing, need, pledges, vessel, pledge)[0] == "broken":
                        found = (number, standing, vessel)
        if told is None:
            self.assertIsNone(found)
            return None
        number, standing, vessel, world = told
        self.assertEqual((number, standing, vessel), found)
        lots, rests = standard_stock(plant, recipes[number], standing)
        made = map_of(plant, recipes[number], standing)
        _, after = made.put_on((lots,), rests)
        pledged = dict(zip(plant, pledges))
        self.assertFalse(Claim(pledged[vessel])(plant, dict(zip(made.end, after))[vessel], world))
        for name, rest in zip(standing, rests):
            if pledged[name]:
                self.assertTrue(Claim(pledged[name])(plant, rest, world))
        for lot, need in zip(lots, needs[number]):
            if need:
                self.assertTrue(Claim(need)(plant, only(lot), world))
        return found

    def test_small_ones(self):
        self.assertIsNone(self.held([], [], (FREE, None, FREE)))
        self.assertIsNone(self.held([FILL], [(FREE,)], (FREE, None, None)))
        self.assertIsNone(self.held([FILL], [(FREE,)], (CLEAN, None, None)))
        self.assertIsNone(self.held([FILL], [(None,)], NONE))
        self.assertEqual(self.held([FILL], [(None,)], (FREE, None, None)), (0, (), "kettle"))
        self.assertEqual(self.held([FILL, BOTH], [(FREE,), (None, FREE)], (FREE, None, None)), (1, (), "kettle"))
        self.assertIsNone(self.held((FILL, BOTH), ((FREE,), (FREE, None)), (FREE, None, None)))
        self.assertIsNone(self.held([FILL], [(FREE,)], (FREE, None, LATE)))
        # From the standing with the tub, whose pledge says too little.
        pour = Recipe(("s",), (("take", "s", "tub", 6), ("move", "tub", "kettle", 6), ("drain", "tub"), ("drain", "kettle")))
        self.assertEqual(self.held([FILL, pour], [(FREE,), (FREE,)], (FREE, None, None)), (1, ("kettle", "tub"), "kettle"))
        self.assertIsNone(self.held([FILL, pour], [(FREE,), (FREE,)], (FREE, None, FREE)))
        self.assertIsNone(self.held([FILL, pour], [(LATE,), (LATE,)], (LATE, None, LATE)))
        self.assertEqual(self.held([FILL, pour], [(LATE,), (("since", 2),)], (LATE, None, LATE)), (1, ("kettle", "tub"), "kettle"))

    def test_random_ones(self):
        random = Random(8)
        found = {True: 0, False: 0}
        for _ in range(60):
            recipes = [small_recipe(random, PLANT, ("s",)) for _ in range(random.randint(1, 2))]
            claim = random_claim(random, 1)
            needs = [(random.choice([claim, claim, None]),) for _ in recipes]
            pledges = (random.choice([claim, claim, None]), None, random.choice([claim, None]))
            found[self.held(recipes, needs, pledges) is None] += 1
        self.assertTrue(min(found.values()) > 8, found)


if __name__ == "__main__":
    unittest.main()
