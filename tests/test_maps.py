"""Standings and maps of recipes, held against what stocks really make."""

import unittest
from itertools import combinations
from random import Random

from cooking import outcome, plant_with, random_recipe, rested, small_recipe
from swornlots.contents import only
from swornlots.errors import Unlike
from swornlots.maps import Map, can_run, map_of, standings
from swornlots.recipes import Recipe, row_of
from swornlots.stocks import Stock

PLANT = plant_with()
S0, S1 = ("slot", 0, 0), ("slot", 0, 1)
KETTLE, POT, TUB = ("rest", "kettle"), ("rest", "pot"), ("rest", "tub")


class Standings(unittest.TestCase):
    def test_order(self):
        plant = plant_with((("z", 5, 0), ("a", 5, 1), ("m", 5, 0)))
        self.assertEqual(standings(plant), ((), ("z",), ("a",), ("m",), ("z", "a"), ("z", "m"), ("a", "m"), ("z", "a", "m")))
        six = plant_with(tuple((f"v{k}", 5, 0) for k in (3, 1, 4, 0, 5, 2)))
        expected = tuple(told for many in range(7) for told in combinations(("v3", "v1", "v4", "v0", "v5", "v2"), many))
        self.assertEqual(standings(six), expected)
        self.assertEqual(standings(plant_with((("z", 5, 0),))), ((), ("z",)))

    def test_of_stocks(self):
        stock = Stock(PLANT)
        self.assertEqual(stock.standing(), ())
        stock.do(("take", "l1", "kettle", 11))
        self.assertIsNone(stock.standing())
        stock.do(("drain", "kettle"))
        self.assertEqual(stock.standing(), ("kettle",))
        stock.do(("take", "l1", "pot", 1))
        self.assertIsNone(stock.standing())
        stock.do(("drain", "pot"))
        self.assertEqual(stock.standing(), ("kettle", "pot"))
        stock.do(("take", "l1", "tub", 4))
        self.assertIsNone(stock.standing())
        stock.do(("wash", "tub"))
        stock.do(("wash", "kettle"))
        self.assertEqual(stock.standing(), ("pot",))


class Maps(unittest.TestCase):
    def test_attributes(self):
        recipe = Recipe(("s", "t", "u"), (("take", "s", "kettle", 30), ("pack", "kettle", 20), ("take", "t", "pot", 10), ("move", "kettle", "pot", 10), ("pack", "pot", 5), ("drain", "pot"),
                                          ("drain", "kettle")))
        made = map_of(PLANT, recipe, ("kettle",))
        self.assertIsInstance(made, Map)
        self.assertEqual((made.start, made.end, made.runs), (("kettle",), ("kettle", "pot"), 1))
        self.assertEqual(made.boxes, (
            (20, (((S0, (3, 4)), (KETTLE, (1, 4))), (S0, KETTLE))),
            (5, (((S0, (3, 8)), (S1, (1, 2)), (KETTLE, (1, 8))), (S0, S1, KETTLE)))))
        self.assertEqual(made.rests, (("kettle", (((S0, (3, 4)), (KETTLE, (1, 4))), (S0, KETTLE))), ("pot", ((), (S0, S1, KETTLE)))))

    def test_touched_without_a_share(self):
        recipe = Recipe(("s", "t"), (("take", "t", "pot", 10), ("pack", "pot", 10), ("take", "s", "pot", 10), ("pack", "pot", 10), ("wash", "kettle")))
        made = map_of(PLANT, recipe, ("kettle", "pot"))
        self.assertEqual(made.boxes, ((10, (((S1, (1, 1)),), (S1, POT))), (10, (((S0, (1, 1)),), (S0, S1, POT)))))
        self.assertEqual((made.end, made.rests), (("pot",), (("pot", ((), (S0, S1, POT))),)))

    def test_sources_stand_in_the_order_of_the_plant(self):
        plant = plant_with((("z", 100, 10), ("a", 100, 10), ("m", 100, 10)))
        recipe = Recipe(("s",), (("take", "s", "a", 20), ("move", "a", "z", 10), ("move", "z", "m", 10), ("drain", "a"), ("drain", "m")))
        made = map_of(plant, recipe, ("z", "a", "m"))
        rests = dict(made.rests)
        self.assertEqual(rests["m"][1], (S0, ("rest", "z"), ("rest", "a"), ("rest", "m")))
        self.assertEqual([source for source, _ in rests["m"][0]], list(rests["m"][1]))
        self.assertEqual([name for name, _ in made.rests], ["z", "a", "m"])

    def test_nothing_done(self):
        idle = Recipe(("s",), (("drain", "kettle"),))
        for standing in standings(PLANT):
            made = map_of(PLANT, idle, standing)
            self.assertEqual((made.start, made.end, made.boxes), (standing, standing, ()))
            self.assertEqual(made.rests, tuple((name, (((("rest", name), (1, 1)),) if PLANT[name][1] else (), (("rest", name),))) for name in standing))

    def refused(self, steps, standing, *told):
        recipe = Recipe(("s", "t"), steps)
        self.assertEqual(outcome(lambda: map_of(PLANT, recipe, standing)), told)
        self.assertIs(can_run(PLANT, recipe, standing), False)

    def test_errors(self):
        take = ("take", "s", "kettle", 91)
        for steps, standing, told in [
            ((take,), ("kettle",), ("Full", "kettle")), ((take,), (), ("Unrested", "kettle")), ((("pack", "kettle", 1),), ("kettle",), ("Short", "kettle")),
            ((("move", "kettle", "pot", 1),), (), ("Short", "kettle")), ((("drain", "bowl"),), (), ("NoThing", "bowl")), ((("when", "bowl", (take,), ()),), (), ("NoThing", "bowl")),
            ((("take", "s", "tub", 5), ("take", "s", "kettle", 9)), (), ("Unrested", "kettle")), ((("take", "s", "tub", 4), ("take", "s", "kettle", 10)), (), ("Unrested", "tub")),
            ((("take", "s", "pot", 1), ("take", "s", "tub", 4)), (), ("Unrested", "pot")), ((("repeat", 20, (("drain", "pot"),) * 6),), (), ("TooMany", "step")),
            ((take, ("repeat", 17, (("pack", "kettle", 1),))), (), ("TooMany", "box")), ((take, ("drain", "kettle"), ("drain", "bowl")), (), ("NoThing", "bowl")),
        ]:
            self.refused(steps, standing, *told)
        self.assertIs(can_run(PLANT, Recipe(("s",), (take, ("drain", "kettle"))), ()), True)
        self.assertIs(can_run(PLANT, Recipe(("s",), (take, ("drain", "kettle"))), ("kettle",)), False)
        self.assertEqual(len(map_of(PLANT, Recipe(("s",), (take, ("repeat", 16, (("pack", "kettle", 1),)), ("drain", "kettle"))), ()).boxes), 16)

    def test_vessels_can_have_any_names(self):
        """Also those that lots or boxes are called elsewhere."""
        for names in (("x100", "x101"), ("s0", "a0"), ("b0", "x102"), ("l1", "q1")):
            plant = plant_with(tuple((name, 100, 10) for name in names))
            recipe = Recipe(("s",), (("take", "s", names[0], 30), ("pack", names[0], 20), ("move", names[0], names[1], 10), ("drain", names[1])))
            self.assertIs(can_run(plant, recipe, names), True)
            made = map_of(plant, Recipe(("s",), (("take", "s", names[0], 30), ("pack", names[0], 20), ("drain", names[0]), ("wash", names[1]))), names)
            self.assertEqual(made.boxes, ((20, (((S0, (3, 4)), (("rest", names[0]), (1, 4))), (S0, ("rest", names[0])))),))

    def test_a_keep_of_1(self):
        plant = plant_with((("a", 5, 1), ("b", 5, 0)))
        made = map_of(plant, Recipe(("s",), (("take", "s", "a", 3), ("pack", "a", 3), ("take", "s", "b", 1), ("pack", "b", 1))), ("a", "b"))
        rest = ("rest", "a")
        self.assertEqual(made.rests, (("a", (((S0, (3, 4)), (rest, (1, 4))), (S0, rest))), ("b", ((), (S0, ("rest", "b"))))))

    def test_many_boxes_from_a_standing(self):
        recipe = Recipe(("s",), (("take", "s", "kettle", 90), ("repeat", 16, (("pack", "kettle", 1),)), ("drain", "kettle")))
        for standing in [("kettle",), ("kettle", "pot", "tub")]:
            self.assertEqual(len(map_of(PLANT, recipe, standing).boxes), 16)

    def test_many_sources(self):
        vessels = tuple((f"v{k}", 1000, k) for k in range(6))
        plant = plant_with(vessels)
        steps = [("take", slot, f"v{k}", 100) for k, slot in enumerate("stuv")]
        steps += [("move", f"v{k}", "v5", 10) for k in range(4)] + [("pack", "v5", 7)] + [("drain", f"v{k}") for k in range(6)]
        made = map_of(plant, Recipe(tuple("stuv"), tuple(steps)), tuple(f"v{k}" for k in range(6)))
        self.assertEqual(made.boxes[0][1][1], tuple(("slot", 0, k) for k in range(4)) + tuple(("rest", f"v{k}") for k in (0, 1, 2, 3, 5)))


def really_made(stock, recipe, lots, names):
    """The contents of the boxes of a run on a stock, and of the rests behind it; the stock changes."""
    row = recipe(stock, lots, names)
    packed = [deed[2] for deed in row if deed[0] == "pack"]
    return (tuple(stock.content(box) for box in packed), tuple(stock.content(vessel) for vessel in stock.standing()))


class PutUpon(unittest.TestCase):
    def test_small_case(self):
        recipe = Recipe(("s",), (("take", "s", "kettle", 30), ("pack", "kettle", 20), ("drain", "kettle")))
        made = map_of(PLANT, recipe, ("kettle",))
        rest = ((("a", (1, 2)), ("b", (1, 2))), ("a", "b", "c"))
        boxes, rests = made.put_on((("l1",),), (rest,))
        self.assertEqual(boxes, (((("a", (1, 8)), ("b", (1, 8)), ("l1", (3, 4))), ("a", "b", "c", "l1")),))
        self.assertEqual(rests, boxes)
        # The lot is in the rest, too.
        boxes, _ = made.put_on([("a",)], [rest])
        self.assertEqual(boxes, (((("a", (7, 8)), ("b", (1, 8))), ("a", "b", "c")),))
        self.assertEqual(made.put_on((("a",),), (only("a"),))[0], (only("a"),))

    def test_random_runs(self):
        random = Random(5)
        done = 0
        for turn in range(700):
            recipe = random_recipe(random, PLANT) if turn % 2 else small_recipe(random, PLANT, ("s", "t"))
            standing = random.choice(standings(PLANT))
            told = outcome(lambda: map_of(PLANT, recipe, standing))
            stock = rested(random, PLANT, standing)
            lots = tuple(random.sample(["q1", "m1", "m2", "m3"], len(recipe.slots)))
            rests = tuple(stock.content(vessel) for vessel in standing)
            names = tuple(f"b{k}" for k in range(17))
            if not isinstance(told, Map):
                self.assertIs(can_run(PLANT, recipe, standing), False)
                if told[0] == "Unrested":
                    recipe(stock, lots, names)
                    unrested = [v for v in PLANT if not stock.clean(v) and stock.level(v) != PLANT[v][1]]
                    self.assertEqual(told[1], unrested[0])
                else:
                    self.assertEqual(outcome(lambda: row_of(recipe, stock, lots, names))[0], told[0])
                continue
            done += 1
            self.assertIs(can_run(PLANT, recipe, standing), True)
            boxes, after = really_made(stock, recipe, lots, names)
            self.assertEqual(told.put_on((lots,), rests), (boxes, after))
            self.assertEqual((told.start, told.end), (standing, stock.standing()))
            self.assertEqual([amount for amount, _ in told.boxes], [stock.amount(box) for box in stock.box_names()])
            self.assertEqual([vessel for vessel, _ in told.rests], list(told.end))
        self.assertGreater(done, 100)


class Products(unittest.TestCase):
    def test_unlike(self):
        fill = Recipe(("s",), (("take", "s", "kettle", 30), ("take", "s", "tub", 30), ("drain", "kettle"), ("drain", "tub")))
        full, first = map_of(PLANT, fill, ("kettle", "tub")), map_of(PLANT, fill, ())
        self.assertEqual((first * full).runs, 2)
        for one, other, vessel in [(first, first, "kettle"), (full, first, "kettle"), (first, map_of(PLANT, fill, ("kettle",)), "tub"),
                                   (first, map_of(PLANT, fill, ("kettle", "pot", "tub")), "pot"), (first, map_of(PLANT, fill, ("pot",)), "kettle")]:
            with self.assertRaises(Unlike) as caught:
                one * other
            self.assertEqual(caught.exception.vessel, vessel)
        with self.assertRaises(TypeError):
            first * 2

    def test_a_small_product(self):
        recipe = Recipe(("s", "t"), (("take", "t", "kettle", 30), ("pack", "kettle", 20), ("drain", "kettle"), ("take", "s", "pot", 1), ("drain", "pot")))
        first = map_of(PLANT, recipe, ())
        second = map_of(PLANT, recipe, ("kettle", "pot"))
        both = first * second
        self.assertEqual((both.start, both.end, both.runs), ((), ("kettle", "pot"), 2))
        t0, t1, s0, s1 = ("slot", 0, 1), ("slot", 1, 1), ("slot", 0, 0), ("slot", 1, 0)
        mixed = (((t0, (1, 4)), (t1, (3, 4))), (t0, t1))
        self.assertEqual(both.boxes, ((20, (((t0, (1, 1)),), (t0,))), (20, mixed)))
        self.assertEqual(both.rests, (("kettle", mixed), ("pot", ((), (s0, s1)))))
        self.assertTrue(both == first * second)
        self.assertTrue((both * second) == (first * (second * second)))
        for other in (first, second, both * second, None, 7):
            self.assertFalse(both == other)
        self.assertEqual((both * second).runs, 3)

    def test_each_attribute_counts(self):
        """Maps that differ in one attribute are not equal."""
        wash = Recipe((), (("wash", "kettle"),))
        fills = {}
        for slot, pack in (("s", 5), ("s", 6), ("t", 5)):
            fills[slot, pack] = map_of(PLANT, Recipe(("s", "t"), (("take", slot, "kettle", 30), ("pack", "kettle", pack), ("wash", "kettle"), ("take", "s", "kettle", 30), ("drain", "kettle"))), ())
        clean, washed = map_of(PLANT, wash, ()), map_of(PLANT, wash, ("kettle",))
        rests = [map_of(PLANT, Recipe(("s", "t"), (("take", slot, "kettle", 30), ("drain", "kettle"))), ()) for slot in "st"]
        ends = [map_of(PLANT, Recipe(("s",), (("take", "s", vessel, 30), ("drain", vessel))), ()) for vessel in ("kettle", "tub")]
        for first, second, names in [(clean, washed, {"start"}), (clean, clean * clean, {"runs"}), (fills["s", 5], fills["s", 6], {"boxes"}), (fills["s", 5], fills["t", 5], {"boxes"}),
                                     (*rests, {"rests"}), (*ends, {"end", "rests"})]:
            self.assertEqual({name for name in ("start", "end", "runs", "boxes", "rests") if getattr(first, name) != getattr(second, name)}, names)
            self.assertFalse(first == second)
            self.assertFalse(second == first)

    def test_rows_of_runs(self):
        random = Random(6)
        done = 0
        while done < 60:
            stock = rested(random, PLANT, random.choice(standings(PLANT)))
            rests = tuple(stock.content(vessel) for vessel in stock.standing())
            product, lots, boxes = None, [], ()
            for run in range(random.randint(2, 6)):
                recipe = small_recipe(random, PLANT, ("s", "t")[:random.randint(1, 2)])
                if not can_run(PLANT, recipe, stock.standing()) or len(stock.box_names()) > 10:
                    continue
                made = map_of(PLANT, recipe, stock.standing())
                lots.append(tuple(random.sample(["q1", "q2", "m1", "m2", "m3"], len(recipe.slots))))
                more, after = really_made(stock, recipe, lots[-1], tuple(f"b{run}x{k}" for k in range(9)))
                boxes += more
                product = made if product is None else product * made
            if product is None or product.runs < 2:
                continue
            done += 1
            self.assertEqual(product.put_on(tuple(lots), rests), (boxes, after))
            self.assertEqual(product.runs, len(lots))
            self.assertEqual(product.end, stock.standing())
            self.check_order(product)

    def check_order(self, made):
        places = list(PLANT)

        def key(source):
            return (0, *source[1:]) if source[0] == "slot" else (1, places.index(source[1]))

        for _, (shares, touched) in (*made.boxes, *made.rests):
            names = [source for source, _ in shares]
            self.assertEqual(names, sorted(set(names), key=key))
            self.assertEqual(list(touched), sorted(set(touched), key=key))
            self.assertTrue(set(names) <= set(touched))


if __name__ == "__main__":
    unittest.main()
