"""Recipes: their forms and bounds, and their runs on stocks."""

import unittest
from random import Random

from cooking import outcome, plant_with, random_recipe, rested
from swornlots.errors import BadRecipe, NoBox, TooMany
from swornlots.maps import standings
from swornlots.recipes import Recipe, row_of
from swornlots.stocks import Stock

PLANT = plant_with()
TAKE, MOVE, DRAIN = ("take", "s", "kettle", 30), ("move", "kettle", "pot", 5), ("drain", "kettle")
WASH, PACK = ("wash", "pot"), ("pack", "kettle", 5)
ALL = (TAKE, MOVE, DRAIN, WASH, PACK)


def nested(many, step=DRAIN):
    for _ in range(many):
        step = ("repeat", 2, (step,))
    return step


class Forms(unittest.TestCase):
    def refused(self, slots, steps, number):
        with self.subTest(slots=slots, steps=steps):
            with self.assertRaises(BadRecipe) as caught:
                Recipe(slots, steps)
            self.assertEqual(caught.exception.step, number)

    def test_good_ones(self):
        for slots, steps in [
            (("s",), ALL), ((), (DRAIN,)), (("s", "t", "u", "v"), (TAKE,)), (("s",), (("repeat", 1, (TAKE,)),)), ((), (("repeat", 20, (DRAIN,)),)),
            ((), (("when", "pot", (DRAIN,), ()),)), ((), (("when", "pot", (), (DRAIN,)),)), ((), (("when", "pot", (DRAIN,), (WASH,)),)), ((), (nested(3),)),
            ((), (("when", "pot", (nested(2),), (nested(1), nested(2))),)), ((), (DRAIN,) * 40), ((), (nested(3),) * 10), (("kettle",), (("take", "kettle", "kettle", 1),)),
            (("s",), (("take", "s", "a", 10000), ("pack", "nowhere", 1), ("pack", "a", 10000), ("move", "a", "b", 1))),
        ]:
            with self.subTest(steps=steps):
                recipe = Recipe(slots, steps)
                self.assertEqual((recipe.slots, recipe.steps), (tuple(slots), tuple(steps)))
                other = Recipe(list(slots), list(steps))
                self.assertEqual((other.slots, other.steps), (tuple(slots), tuple(steps)))
                self.assertTrue(recipe == other)

    def test_lists_are_copied(self):
        slots, steps = ["s"], [TAKE]
        recipe = Recipe(slots, steps)
        slots.append("t")
        steps.append(DRAIN)
        self.assertEqual((recipe.slots, recipe.steps), (("s",), (TAKE,)))

    def test_bad_slots(self):
        for slots in [("s", "s"), ("s", "t", "u", "v", "w"), ("S",), ("",), ("repeat",), ("of",), (7,), (None,), (("s",),), ("toolongname",), ["s", "t", "s"]]:
            self.refused(slots, (DRAIN,), -1)
            self.refused(slots, (), -1)

    def test_no_step(self):
        self.refused((), (), 0)
        self.refused(["s"], [], 0)

    def test_bad_steps(self):
        for bad in [
            (), None, 7, "drain", list(DRAIN), ("part", "b1", "b2", 3), ("open", "b1", "pot"), ("end", "b1"), ("sample", "pot", "s1"), ("forget", "s1"), ("Drain", "kettle"),
            ("drain",), ("drain", "pot", 1), ("drain", ("pot",)), ("drain", "Pot"), ("drain", "of"), ("drain", ""), ("drain", None), ("wash",), ("wash", 1), ("wash", "pot", "pot"),
            ("take", "t", "kettle", 30), ("take", "s", "kettle"), ("take", "s", "kettle", 0), ("take", "s", "kettle", 10001), ("take", "s", "kettle", True), ("take", "s", "kettle", -1),
            ("take", "s", "kettle", "1"), ("take", "s", "", 1), ("take", "s", "kettle", 1, 1), ("take", ("s",), "kettle", 1), ("take", None, "kettle", 1), ("take", ["s"], "kettle", 1),
            ("move", "pot", "pot", 1), ("move", "pot", "kettle", 0), ("move", "pot", "kettle", 10001), ("move", "pot", "kettle"), ("move", "pot", 1), ("move", "a", "b", False),
            ("pack", "kettle", 0), ("pack", "kettle", 10001), ("pack", "kettle", True), ("pack", "kettle", "b1", 5), ("pack", 5), ("pack", "kettle"),
            ("repeat", 0, (DRAIN,)), ("repeat", 21, (DRAIN,)), ("repeat", True, (DRAIN,)), ("repeat", 2, ()), ("repeat", 2, [DRAIN]), ("repeat", 2, None), ("repeat", 2),
            ("repeat", 2, (DRAIN,), ()), ("repeat", "2", (DRAIN,)), ("repeat", (DRAIN,)), ("when", "pot", (), ()), ("when", "pot", (DRAIN,)), ("when", "pot", [DRAIN], ()),
            ("when", "pot", (), [DRAIN]), ("when", "pot", None, (DRAIN,)), ("when", "Pot", (DRAIN,), ()), ("when", 1, (DRAIN,), ()), ("when", "pot", (DRAIN,), (), ()),
            (None, "pot"), (["drain"], "pot"), (True,), (("drain", "pot"),), {"drain": "pot"},
        ]:
            self.refused(("s",), (bad,), 0)
            self.refused(["s"], [TAKE, bad, bad], 1)
            self.refused(("s",), (TAKE, ("repeat", 2, (DRAIN, bad)), bad), 3)

    def test_numbers_of_steps(self):
        bad = ("drain", "")
        self.refused((), (("when", "pot", (DRAIN, DRAIN), (DRAIN, bad)), bad), 4)
        self.refused((), (("when", "pot", (DRAIN, bad), (bad,)),), 2)
        self.refused((), (("when", "pot", (), (bad,)),), 1)
        # The outer one goes ahead of those in it.
        self.refused((), (("repeat", 0, (bad,)),), 0)
        self.refused((), (DRAIN, ("when", "", (bad,), (bad,))), 1)
        self.refused((), (("repeat", 2, (("repeat", 2, (DRAIN, bad)), bad)), bad), 3)

    def test_depth(self):
        self.refused((), (nested(4),), 3)
        self.refused((), (nested(9),), 3)
        self.refused((), (DRAIN, ("when", "pot", (), (nested(2), ("when", "pot", (nested(2),), ())))), 7)
        when = ("when", "pot", (DRAIN,), (DRAIN,))
        self.refused((), (DRAIN, ("repeat", 2, (("repeat", 2, (("when", "pot", (), (when,)),)),))), 4)
        # A step that is too deep is not looked into, and a bad one ahead of it is told.
        self.refused((), (nested(4), ("drain", "")), 3)
        self.refused((), (("drain", ""), nested(4)), 0)

    def test_too_many_steps(self):
        self.refused((), (DRAIN,) * 41, 40)
        self.refused((), (DRAIN,) * 99, 40)
        self.refused((), (DRAIN,) * 40 + (("drain", ""),), 40)
        self.refused((), (DRAIN,) * 39 + (nested(1),), 40)
        self.refused((), (nested(3),) * 10 + (DRAIN,), 40)
        self.refused((), (DRAIN,) * 39 + (("drain", ""),) * 9, 39)
        self.refused((), (DRAIN,) * 36 + (nested(4),), 39)
        self.refused((), (DRAIN,) * 37 + (nested(4),), 40)
        self.refused((), (("repeat", 2, (DRAIN,) * 40),), 40)
        Recipe((), (("repeat", 2, (DRAIN,) * 39),))

    def test_packs(self):
        self.assertEqual(Recipe((), (DRAIN,)).packs, 0)
        steps = (PACK, ("repeat", 9, (PACK, ("when", "pot", (PACK, PACK), (PACK,)))), ("when", "pot", (), (PACK,)))
        self.assertEqual(Recipe((), steps).packs, 6)

    def test_equal(self):
        recipe = Recipe(("s", "t"), (TAKE, DRAIN))
        for other in [Recipe(("t", "s"), (TAKE, DRAIN)), Recipe(("s",), (TAKE, DRAIN)), Recipe(("s", "t"), (TAKE,)), Recipe(("s", "t"), (DRAIN, TAKE)),
                      (("s", "t"), (TAKE, DRAIN)), None, "recipe"]:
            self.assertFalse(recipe == other)
        self.assertTrue(recipe == Recipe(("s", "t"), (TAKE, DRAIN)))


def written_out(recipe, stock, lots, boxes):
    """The row of a run, reckoned a second time, on a stock that changes; the name of an error behind it."""
    slots, names, row = dict(zip(recipe.slots, lots)), list(boxes), []

    def go(steps):
        for step in steps:
            if step[0] == "repeat":
                for _ in range(step[1]):
                    go(step[2])
            elif step[0] == "when":
                go(step[2] if stock.clean(step[1]) else step[3])
            else:
                if len(row) == 100:
                    raise TooMany("step")
                if step[0] == "take":
                    step = ("take", slots[step[1]], *step[2:])
                elif step[0] == "pack":
                    if not names:
                        raise NoBox(len(boxes))
                    step = ("pack", step[1], names.pop(0), step[2])
                stock.do(step)
                row.append(step)
    go(recipe.steps)
    return tuple(row)


class Runs(unittest.TestCase):
    def refused(self, recipe, stock, lots, boxes, *told):
        """The error of a run, behind which nothing is done."""
        before = stock.copy()
        self.assertEqual(outcome(lambda: recipe(stock, lots, boxes)), told)
        self.assertTrue(stock == before)
        self.assertEqual(stock.state(), before.state())
        self.assertEqual(outcome(lambda: row_of(recipe, stock, lots, boxes)), told)
        self.assertTrue(stock == before)

    def test_row(self):
        stock = Stock(PLANT)
        recipe = Recipe(("s", "t"), (("take", "t", "kettle", 30), ("take", "s", "kettle", 10), MOVE, ("pack", "pot", 2), PACK, ("wash", "pot"), ("drain", "kettle")))
        row = (("take", "l2", "kettle", 30), ("take", "l1", "kettle", 10), ("move", "kettle", "pot", 5), ("pack", "pot", "b1", 2), ("pack", "kettle", "b2", 5),
               ("wash", "pot"), ("drain", "kettle"))
        self.assertEqual(row_of(recipe, stock, ("l1", "l2"), ("b1", "b2", "b3")), row)
        self.assertEqual(stock.deeds, ())
        self.assertEqual(recipe(stock, ("l1", "l2"), ("b1", "b2", "b3")), row)
        self.assertEqual(stock.deeds, row)
        self.assertEqual(stock.mix("b2"), (("l1", (1, 4)), ("l2", (3, 4))))
        other = Stock(PLANT)
        for deed in row:
            other.do(deed)
        self.assertTrue(stock == other)
        self.assertEqual(stock.state(), other.state())

    def test_repeat_and_when(self):
        stock = Stock(PLANT)
        steps = (("repeat", 2, (("when", "kettle", (TAKE,), (("repeat", 2, (PACK,)),)), ("when", "pot", (MOVE,), ()), ("when", "pot", (), (WASH,)))),)
        recipe = Recipe(("s",), steps)
        row = (("take", "l1", "kettle", 30), MOVE, WASH, ("pack", "kettle", "b1", 5), ("pack", "kettle", "b2", 5), MOVE, WASH)
        self.assertEqual(recipe(stock, ("l1",), ("b1", "b2")), row)
        # A vessel that is empty, but not clean.
        stock = Stock(PLANT)
        for deed in [("take", "l1", "pot", 5), ("drain", "pot")]:
            stock.do(deed)
        self.assertEqual(Recipe((), (("when", "pot", (("wash", "kettle"),), (("drain", "kettle"),)),))(stock, (), ()), (("drain", "kettle"),))

    def test_nothing_to_do(self):
        stock = Stock(PLANT)
        self.assertEqual(Recipe((), (("when", "pot", (), (WASH,)),))(stock, (), ()), ())
        self.assertEqual(stock.deeds, ())

    def test_errors_of_deeds(self):
        stock = Stock(PLANT)
        stock.do(("take", "l1", "kettle", 30))
        for steps, told in [
            ((TAKE, ("take", "s", "kettle", 90)), ("Full", "kettle")), ((TAKE, ("pack", "kettle", 90)), ("Short", "kettle")), ((TAKE, ("move", "kettle", "bowl", 1)), ("NoThing", "bowl")),
            ((TAKE, ("drain", "bowl")), ("NoThing", "bowl")), ((TAKE, ("when", "bowl", (DRAIN,), ())), ("NoThing", "bowl")), ((PACK, ("when", "b1", (DRAIN,), ())), ("NoThing", "b1")),
            ((TAKE, ("wash", "kettle"), MOVE, ("drain", "bowl")), ("Short", "kettle")), ((PACK, ("when", "l1", (), (DRAIN,))), ("NoThing", "l1")),
        ]:
            self.refused(Recipe(("s",), steps), stock, ("l2",), ("b1",), *told)
        recipe = Recipe(("s",), (TAKE, PACK))
        for lots, boxes, told in [(("pot",), ("b1",), ("Known", "pot")), (("l2",), ("l1",), ("Known", "l1")), (("l2",), ("l2",), ("Known", "l2")), (("l2",), ("pot",), ("Known", "pot")),
                                  (("l2",), (), ("NoBox", 0)), (("L2",), ("b1",), ("BadDeed", ("take", "L2", "kettle", 30))), (("l2",), ("B1",), ("BadDeed", ("pack", "kettle", "B1", 5)))]:
            self.refused(recipe, stock, lots, boxes, *told)
        self.refused(Recipe(("s",), (PACK, PACK, PACK)), stock, ("l2",), ("b1", "b2"), "NoBox", 2)
        self.refused(Recipe(("s",), (PACK, PACK)), stock, ("l2",), ("b1", "b1"), "Known", "b1")
        self.assertEqual(recipe(stock, ("l1",), ("b1",)), (("take", "l1", "kettle", 30), ("pack", "kettle", "b1", 5)))

    def test_an_error_is_told_when_the_run_comes_to_it(self):
        stock = Stock(PLANT)
        # What is not come to is not refused.
        self.assertEqual(Recipe((), (("when", "pot", (DRAIN,), (("drain", "bowl"), PACK)),))(stock, (), ()), (DRAIN,))
        self.refused(Recipe((), (("drain", "bowl"), ("when", "tank", (DRAIN,), ()))), stock, (), (), "NoThing", "bowl")
        self.refused(Recipe((), (("when", "tank", (DRAIN,), ()), ("drain", "bowl"))), stock, (), (), "NoThing", "tank")
        # NoBox goes ahead of the error of the deed.
        self.refused(Recipe((), (("pack", "bowl", 1),)), stock, (), (), "NoBox", 0)
        self.refused(Recipe((), (("pack", "bowl", 1),)), stock, (), ("b1",), "NoThing", "bowl")

    def test_100_steps(self):
        stock = Stock(PLANT)
        hundred = (("repeat", 20, (DRAIN,) * 5),)
        self.assertEqual(Recipe((), hundred)(stock.copy(), (), ()), (DRAIN,) * 100)
        for more in [(WASH,), (("drain", "bowl"),), (("pack", "bowl", 1),), (("repeat", 9, (DRAIN,)),)]:
            self.refused(Recipe((), hundred + more), stock, (), (), "TooMany", "step")
        self.refused(Recipe((), hundred + (("when", "bowl", (DRAIN,), ()),)), stock, (), (), "NoThing", "bowl")
        self.assertEqual(len(Recipe((), hundred + (("when", "pot", (), (DRAIN,)),))(stock, (), ())), 100)
        self.refused(Recipe((), (("drain", "bowl"), *hundred, DRAIN)), stock, (), (), "NoThing", "bowl")

    def test_200_deeds(self):
        stock = Stock(PLANT)
        for _ in range(150):
            stock.do(DRAIN)
        self.refused(Recipe((), (("repeat", 17, (DRAIN,) * 3),)), stock, (), (), "TooMany", "deed")
        Recipe((), (("repeat", 10, (DRAIN,) * 5),))(stock, (), ())
        self.assertEqual(len(stock.deeds), 200)

    def test_too_many_boxes(self):
        recipe = Recipe(("s",), (("take", "s", "kettle", 100), ("repeat", 17, (("pack", "kettle", 1),))))
        self.refused(recipe, Stock(PLANT), ("l1",), tuple(f"b{k}" for k in range(20)), "TooMany", "box")

    def test_long_repeats_without_deeds(self):
        idle = ("when", "pot", (), (DRAIN,))
        recipe = Recipe((), (("repeat", 20, (("repeat", 20, (("repeat", 20, (DRAIN,)),)),)),))
        self.refused(recipe, Stock(PLANT), (), (), "TooMany", "step")
        recipe = Recipe((), (("repeat", 20, (("repeat", 20, (idle, idle, idle, idle)),)),))
        self.assertEqual(recipe(Stock(PLANT), (), ()), ())

    def test_random_ones(self):
        random = Random(3)
        done = 0
        for _ in range(400):
            recipe = random_recipe(random, PLANT)
            standing = random.choice(standings(PLANT))
            stock = rested(random, PLANT, standing)
            lots = tuple(random.sample(["q1", "q2", "m1", "m2", "m3", "pot"], len(recipe.slots)))
            boxes = tuple(f"b{k}" for k in range(random.randint(0, 12)))
            other, before = stock.copy(), stock.copy()
            told = outcome(lambda: written_out(recipe, other, lots, boxes))
            self.assertEqual(outcome(lambda: row_of(recipe, stock, lots, boxes)), told)
            self.assertTrue(stock == before)
            self.assertEqual(outcome(lambda: recipe(stock, lots, boxes)), told)
            if told == () or isinstance(told[0], tuple):
                done += 1
                self.assertTrue(stock == other)
                self.assertEqual(stock.state(), other.state())
            else:
                self.assertTrue(stock == before)
        self.assertTrue(50 < done < 350, done)


if __name__ == "__main__":
    unittest.main()
