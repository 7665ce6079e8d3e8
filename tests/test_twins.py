"""Plants with menus that are alike or part."""

import unittest
from random import Random

from buffet import BOWLS, fill, pour, random_menu, run_again
from cooking import outcome, plant_with
from swornlots.dirts import first_dirt
from swornlots.menus import Menu
from swornlots.recipes import Recipe
from swornlots.twins import Twins, compare_menus

PLANT = plant_with(BOWLS)
FILL, POUR, WASH = Recipe(("s",), fill("a")), Recipe(("s",), pour("a", "b")), Recipe((), (("wash", "a"),))


class Alike(unittest.TestCase):
    def held(self, menu, other):
        """The row of Twins that are held against [46]."""
        told = compare_menus(menu, other)
        self.assertIsInstance(told, Twins)
        start = (first_dirt(menu.plant), first_dirt(other.plant))
        if told:
            self.assertIs(bool(told), True)
            self.assertIsNone(told.row)
            self.assertIsInstance(told.table, tuple)
            self.assertIn(start, told.table)
            for pair in told.table:
                for entry in range(len(menu)):
                    first, second = run_again(menu, entry, pair[0]), run_again(other, entry, pair[1])
                    self.assertEqual(first is None, second is None)
                    if first is not None:
                        self.assertEqual(first[0], second[0])
                        self.assertIn((first[1], second[1]), told.table)
            return None
        self.assertIsNone(told.table)
        self.assertEqual(told.row, self.least_row(menu, other, start))
        return told.row

    def least_row(self, menu, other, start):
        """The least parting row, by going through rows of each length in order."""
        latest, seen = [((), start)], {start}
        while latest:
            longer = []
            for row, pair in latest:
                for entry in range(len(menu)):
                    first, second = run_again(menu, entry, pair[0]), run_again(other, entry, pair[1])
                    if first is None and second is None:
                        continue
                    if first is None or second is None or first[0] != second[0]:
                        return (*row, entry)
                    after = (first[1], second[1])
                    if after not in seen:
                        seen.add(after)
                        longer.append(((*row, entry), after))
            latest = sorted(longer, key=lambda told: told[0])
        return None

    def test_the_same(self):
        menu = Menu(PLANT, [(FILL, (("nuts",),)), (POUR, ((),)), (WASH, ())])
        self.assertIsNone(self.held(menu, menu))
        told = compare_menus(menu, Menu(PLANT, list(menu)))
        self.assertTrue(all(first == second for first, second in told.table))

    def test_ways_to_part(self):
        one = [(FILL, (("nuts",),))]
        for entries, row in [
            # What can be run.
            ([(Recipe(("s",), (("drain", "bowl"),)), (("nuts",),))], (0,)),
            ([(Recipe(("s",), fill("a") + (("when", "b", (), (("drain", "bowl"),)),)), (("nuts",),))], None),
            ([(Recipe(("s",), (("when", "a", fill("a"), (("drain", "bowl"),)),)), (("nuts",),))], (0, 0)),
            # The number of boxes, amounts, inside, around.
            ([(Recipe(("s",), fill("a") + (("take", "s", "a", 5), ("pack", "a", 1), ("drain", "a"))), (("nuts",),))], (0,)),
            ([(Recipe(("s",), (("take", "s", "a", 20), ("drain", "a"))), (("nuts",),))], (0,)),
            ([(Recipe(("s",), fill("a", pack=6)), (("nuts",),))], (0,)),
            ([(FILL, ((),))], (0,)),
            ([(FILL, (("soy",),))], (0,)),
            ([(Recipe(("s",), (("wash", "a"), *fill("a"))), (("nuts",),))], None),
        ]:
            with self.subTest(entries=entries[0][0].steps):
                self.assertEqual(self.held(Menu(PLANT, one), Menu(PLANT, entries)), row)
                self.assertEqual(self.held(Menu(PLANT, entries), Menu(PLANT, one)), row)

    def test_around_only(self):
        """A vessel that is emptied by pouring or by washing."""
        pots = plant_with((("a", 100, 0), ("b", 60, 0)))
        first = Menu(pots, [(Recipe(("s",), (("take", "s", "a", 5), ("drain", "a"))), ((),)), (Recipe(("s",), fill("a")), (("nuts", "soy"),))])
        second = Menu(pots, [(Recipe(("s",), (("take", "s", "a", 5), ("wash", "a"))), ((),)), (Recipe(("s",), fill("a")), (("nuts", "soy"),))])
        self.assertEqual(self.held(first, second), (0, 1))

    def test_other_plants(self):
        """The vessels can be called, ordered and sized otherwise, and farms do not count."""
        other = plant_with((("x", 70, 0), ("b", 60, 0), ("kettle", 100, 10)), farms=3)
        first = Menu(PLANT, [(FILL, (("nuts",),)), (POUR, ((),))])
        second = Menu(other, [(Recipe(("t",), fill("kettle", "t")), (("nuts",),)), (Recipe(("t",), pour("kettle", "x", "t")), ((),))])
        self.assertIsNone(self.held(first, second))
        self.assertEqual([len(part) for part in compare_menus(first, second).table[0]], [2, 3])
        # In a smaller kettle only some rows can be run.
        small = plant_with((("x", 70, 0), ("b", 60, 0), ("kettle", 25, 10)))
        second = Menu(small, [(Recipe(("t",), fill("kettle", "t")), (("nuts",),)), (Recipe(("t",), pour("kettle", "x", "t")), ((),))])
        self.assertEqual(self.held(first, second), (1,))
        self.assertEqual(self.held(Menu(PLANT, [first[0]]), Menu(small, [second[0]])), (0, 0))

    def test_random_ones(self):
        random = Random(6)
        found = {}
        for _ in range(250):
            plant = plant_with(BOWLS, farms=1, traits=2)
            menu = random_menu(random, plant)
            entries = list(menu)
            for k in range(random.randint(0, 2)):
                at = random.randrange(len(entries))
                recipe, lacks = entries[at]
                if random.random() < 0.5:
                    entries[at] = (Recipe(recipe.slots, (*recipe.steps, random.choice([("wash", "a"), ("wash", "b"), ("drain", "a")]))), lacks)
                else:
                    entries[at] = (recipe, tuple(tuple(t for t in ("nuts", "soy") if random.random() < 0.5) for _ in lacks))
            told = self.held(menu, Menu(plant, entries))
            key = None if told is None else min(len(told), 2)
            found[key] = found.get(key, 0) + 1
        self.assertTrue(min(found.get(key, 0) for key in (None, 1, 2)) > 8, found)

    def test_errors(self):
        menu = Menu(PLANT, [(FILL, (("nuts",),))])
        fewer = Menu(plant_with(BOWLS, traits=1), [(FILL, ((),)), (FILL, ((),))])
        for first, second in ((menu, fewer), (fewer, menu)):
            self.assertEqual(outcome(lambda: compare_menus(first, second)), ("Unlike", "traits"))
        more = Menu(PLANT, [(FILL, ((),)), (FILL, ((),))])
        for first, second in ((menu, more), (more, menu)):
            self.assertEqual(outcome(lambda: compare_menus(first, second)), ("Unlike", "entries"))


if __name__ == "__main__":
    unittest.main()
