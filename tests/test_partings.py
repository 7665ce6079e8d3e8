"""How recipes part."""

import unittest
from random import Random

from cooking import outcome, plant_with, random_recipe, rested, small_recipe
from swornlots.claims import Claim
from swornlots.errors import LotError, Unlike
from swornlots.maps import can_run, map_of, standings
from swornlots.partings import alike_recipes, parting
from swornlots.pledges import standard_stock
from swornlots.recipes import Recipe
from swornlots.worlds import World
from test_claimtexts import random_claim

PLANT = plant_with()
TAKE = ("take", "s", "kettle", 30)
END = ("drain", "kettle")


def recipe(*steps, slots=("s", "t")):
    return Recipe(slots, steps)


def contents(plant, made, told, standing):
    lots, rests = standard_stock(plant, made, standing)
    boxes, after = map_of(plant, made, standing).put_on((lots,), rests)
    if told[0] == "box":
        return boxes[told[1]]
    return dict(zip(map_of(plant, made, standing).end, after))[told[1]]


class Partings(unittest.TestCase):
    def held(self, first, second, standing=(), plant=PLANT):
        """How two recipes part, without claim and world, which are held against [42]."""
        told = parting(plant, first, second, standing)
        if told is None or told[0] not in ("box", "rest"):
            return told
        word, name, claim, world = told
        self.assertIsInstance(world, World)
        lots = [f"s{k}" for k in range(len(first.slots))]
        lots += [f"{letter}{list(plant).index(vessel)}" for vessel in standing for letter in "abc"]
        self.assertEqual(world.lots, tuple(sorted(lots)))
        one, other = (contents(plant, made, told, standing) for made in (first, second))
        self.assertNotEqual(Claim(claim)(plant, one, world), Claim(claim)(plant, other, world))
        if word == "rest":
            self.assertGreater(plant[name][1], 0)
        return (word, name)

    def both(self, first, second, told, standing=(), plant=PLANT, turned=None):
        with self.subTest(first=first.steps, second=second.steps):
            self.assertEqual(self.held(first, second, standing, plant), told)
            self.assertEqual(self.held(second, first, standing, plant), told if turned is None else turned)

    def test_ways(self):
        good = recipe(TAKE, ("pack", "kettle", 5), END)
        bad = recipe(TAKE, ("pack", "kettle", 21), END)
        self.both(good, good, None)
        self.both(bad, bad, None)
        self.both(bad, recipe(("drain", "bowl")), None)
        self.both(good, bad, ("run", 0), turned=("run", 1))
        self.both(good, recipe(TAKE, ("pack", "kettle", 5), ("wash", "kettle")), ("end",))
        self.both(good, recipe(TAKE, ("take", "t", "pot", 1), ("drain", "pot"), END), ("end",))
        self.both(good, recipe(TAKE, END), ("boxes",))
        self.both(good, recipe(TAKE, ("pack", "kettle", 5), ("pack", "kettle", 5), END), ("boxes",))
        two = recipe(TAKE, ("pack", "kettle", 5), ("pack", "kettle", 6), END)
        self.both(two, recipe(TAKE, ("pack", "kettle", 5), ("pack", "kettle", 7), END), ("amount", 1))
        self.both(two, recipe(TAKE, ("pack", "kettle", 6), ("pack", "kettle", 6), END), ("amount", 0))
        self.both(two, recipe(("take", "t", "kettle", 30), ("pack", "kettle", 6), ("pack", "kettle", 6), END), ("amount", 0))
        self.both(good, recipe(("take", "t", "kettle", 30), ("pack", "kettle", 5), END), ("box", 0))
        self.both(two, recipe(TAKE, ("pack", "kettle", 5), ("take", "s", "kettle", 1), ("pack", "kettle", 6), END), None)
        self.both(two, recipe(TAKE, ("pack", "kettle", 5), ("take", "t", "kettle", 1), ("pack", "kettle", 6), END), ("box", 1))
        self.both(good, recipe(TAKE, ("pack", "kettle", 5), ("take", "t", "kettle", 1), END), ("rest", "kettle"))

    def test_the_same_by_other_steps(self):
        self.both(recipe(("repeat", 3, (("take", "s", "kettle", 10),)), END), recipe(TAKE, ("drain", "pot"), END), None)
        self.assertTrue(alike_recipes(PLANT, recipe(("repeat", 3, (("take", "s", "kettle", 10),)), END), recipe(TAKE, END)))
        self.assertTrue(alike_recipes(PLANT, recipe(TAKE, END), Recipe(("x", "y"), (("take", "x", "kettle", 30), END))))

    def test_first_vessels(self):
        first = recipe(TAKE, ("take", "s", "tub", 5), END)
        self.both(first, recipe(("take", "t", "kettle", 30), ("take", "t", "tub", 5), END), ("rest", "kettle"))
        self.both(first, recipe(TAKE, ("take", "t", "tub", 5), END), ("rest", "tub"))
        small = plant_with((("a", 50, 1),))
        self.both(recipe(("take", "s", "a", 5), ("drain", "a")), recipe(("take", "t", "a", 5), ("drain", "a")), ("rest", "a"), plant=small)
        # The pot has the keep 0: no claim can be made of it.
        self.both(recipe(("take", "s", "pot", 5), ("drain", "pot")), recipe(("take", "t", "pot", 5), ("drain", "pot")), None)
        self.assertFalse(map_of(PLANT, recipe(("take", "s", "pot", 5), ("drain", "pot")), ()) == map_of(PLANT, recipe(("take", "t", "pot", 5), ("drain", "pot")), ()))

    def shares(self, plant):
        """Two recipes with different shares of the same sources."""
        return [recipe(("take", "s", "kettle", n), ("take", "t", "kettle", 40 - n), ("pack", "kettle", 9), END) for n in (10, 20)]

    def touches(self):
        """Two recipes of which only one has been touched by the other slot, too."""
        touched = (("take", "t", "kettle", 20), ("move", "kettle", "pot", 10), ("drain", "pot"), ("wash", "kettle"), ("take", "s", "pot", 40), ("move", "pot", "kettle", 30), ("drain", "pot"), END)
        clean = (("take", "t", "pot", 5), ("take", "s", "kettle", 30), ("drain", "pot"), END)
        return [recipe(*touched), recipe(*clean)]

    def test_shares(self):
        one, two = plant_with(farms=1), PLANT
        self.both(*self.shares(two), ("box", 0), plant=two)
        self.both(*self.shares(one), None, plant=one)
        self.assertFalse(alike_recipes(two, *self.shares(two)))
        self.assertTrue(alike_recipes(one, *self.shares(one)))
        # Shares of other sources part also with one farm, and without traits.
        bare = plant_with(farms=1, traits=0)
        self.both(recipe(TAKE, END), recipe(("take", "s", "kettle", 20), ("take", "t", "kettle", 10), END), ("rest", "kettle"), plant=bare)

    def test_touches(self):
        for traits, told in ((0, None), (1, ("rest", "kettle")), (2, ("rest", "kettle"))):
            for farms in (1, 2):
                self.both(*self.touches(), told, plant=plant_with(farms=farms, traits=traits))

    def test_from_standings(self):
        # From clean vessels the two are alike; with a rest in the tub only one of them takes it in.
        first = recipe(TAKE, ("when", "tub", (), (("take", "t", "tub", 10), ("move", "tub", "kettle", 10))), END)
        second = recipe(TAKE, ("when", "tub", (), (("take", "t", "kettle", 10),)), END)
        self.both(first, second, None)
        self.both(first, second, None, ("kettle",))
        self.both(first, second, ("rest", "kettle"), ("tub",))
        self.assertFalse(alike_recipes(PLANT, first, second))
        self.assertTrue(alike_recipes(PLANT, first, first))

    def test_slots(self):
        first, second = recipe(TAKE, END), Recipe(("s",), (TAKE, END))
        for do in (lambda: parting(PLANT, first, second, ()), lambda: parting(PLANT, second, first, ("bowl",)), lambda: alike_recipes(PLANT, first, second)):
            with self.assertRaises(Unlike) as caught:
                do()
            self.assertEqual(caught.exception.vessel, "slots")
        self.assertIsNone(parting(PLANT, Recipe((), (END,)), Recipe((), (END, END)), ("pot",)))

    def expected(self, plant, first, second, standing):
        """The first way of [42], by the contents on the standard stock."""
        maps = []
        for made in (first, second):
            told = outcome(lambda: map_of(plant, made, standing))
            maps.append(None if isinstance(told, tuple) else told)
        one, other = maps
        if one is None or other is None:
            return None if one is other else ("run", 0 if other is None else 1)
        if one.end != other.end:
            return ("end",)
        if len(one.boxes) != len(other.boxes):
            return ("boxes",)
        for k, (a, b) in enumerate(zip(one.boxes, other.boxes)):
            if a[0] != b[0]:
                return ("amount", k)
        lots, rests = standard_stock(plant, first, standing)
        made = [one_map.put_on((lots,), rests) for one_map in maps]
        named = [[(("box", k), content) for k, content in enumerate(boxes)] + [(("rest", name), content) for name, content in zip(one.end, after) if plant[name][1]]
                 for boxes, after in made]
        for (name, ours), (_, theirs) in zip(*named):
            if dict(ours[0]).keys() != dict(theirs[0]).keys():
                return name
            if len(plant.farms) > 1 and ours[0] != theirs[0]:
                return name
            if plant.traits and ours[1] != theirs[1]:
                return name
        return None

    def test_random_ones(self):
        random = Random(9)
        found = {}
        plants = [plant_with(farms=farms, traits=traits) for farms in (1, 2, 3) for traits in (0, 2)]
        for turn in range(400):
            plant = random.choice(plants)
            make = random_recipe if turn % 3 == 0 else small_recipe
            first = make(random, plant, ("s", "t"))
            second = first if turn % 2 else make(random, plant, ("s", "t"))
            if turn % 2:
                steps = list(first.steps)
                k = random.randrange(len(steps))
                if steps[k][0] == "take":
                    steps[k] = ("take", random.choice("st"), *steps[k][2:])
                elif random.random() < 0.5:
                    steps.insert(k, ("wash", random.choice(list(plant))))
                second = Recipe(("s", "t"), steps)
            standing = random.choice(standings(plant))
            told = self.held(first, second, standing, plant)
            self.assertEqual(told, self.expected(plant, first, second, standing))
            key = told if told is None else told[0]
            found[key] = found.get(key, 0) + 1
            if told is None and can_run(plant, first, standing):
                self.not_parted(random, plant, first, second, standing)
        self.assertTrue({None, "run", "end", "boxes", "amount", "box", "rest"} <= set(found), found)

    def not_parted(self, random, plant, first, second, standing):
        """Random claims are true of what both make in the same random worlds."""
        traits = plant.traits or ("nuts",)
        stock = rested(random, plant, standing)
        try:
            made = []
            for one in (first, second):
                copy = stock.copy()
                one(copy, ("m1", "m2"), tuple(f"b{k}" for k in range(17)))
                made.append([copy.content(box) for box in copy.box_names()])
        except LotError:
            return
        lots = {lot for content in made[0] + made[1] for lot in content[1]}
        for _ in range(5):
            claim = random_claim(random, 2, traits, plant.farms)
            if not plant.traits and ("nuts" in repr(claim)):
                continue
            farm = [random.randrange(len(plant.farms)) for _ in lots]
            world = World(plant, [(lot, tuple((int(k == told), 1) for k in range(len(plant.farms))), tuple(t for t in plant.traits if random.random() < 0.3), random.randint(0, 4))
                                  for lot, told in zip(sorted(lots), farm)])
            for ours, theirs in zip(*made):
                self.assertEqual(Claim(claim)(plant, ours, world), Claim(claim)(plant, theirs, world))


if __name__ == "__main__":
    unittest.main()
