"""Menus, plain claims, and dirts."""

import inspect
import unittest
from random import Random

from buffet import BOWLS, all_rows, breaks, fill, pour, random_menu, random_plain, run_again
from cooking import outcome, plant_with
from swornlots import dirts as dirts_file
from swornlots.claims import Claim
from swornlots.dirts import dirts, first_dirt, run_in, runs_from
from swornlots.menus import Menu, can_break, check_plain
from swornlots.recipes import Recipe
from swornlots.stocks import Stock
from swornlots.worlds import World

PLANT = plant_with(BOWLS)
FILL, POUR, WASH = Recipe(("s",), fill("a")), Recipe(("s",), pour("a", "b")), Recipe((), (("wash", "a"),))
ENTRY = (FILL, (("nuts",),))


class Menus(unittest.TestCase):
    def test_attributes(self):
        entries = [ENTRY, (POUR, (("nuts", "soy"),)), (WASH, ()), (FILL, ((),))]
        menu = Menu(PLANT, entries)
        self.assertTrue(menu.plant == PLANT)
        self.assertEqual(menu.entries, tuple(entries))
        self.assertEqual((len(menu), list(menu), list(iter(menu))), (4, entries, entries))
        self.assertEqual([menu[k] for k in range(4)], entries)
        self.assertTrue(menu == Menu(PLANT, tuple(entries)))
        entries.append(ENTRY)
        self.assertEqual(len(menu), 4)
        for other in [Menu(PLANT, entries), Menu(PLANT, entries[:3]), Menu(plant_with(BOWLS, farms=1), entries[:4]), Menu(PLANT, [entries[k] for k in (1, 0, 2, 3)]),
                      Menu(PLANT, [(FILL, (("soy",),)), *entries[1:4]]), None, tuple(entries[:4])]:
            self.assertFalse(menu == other)
        for at in (4, -1, 99, None, "a", True, (0,)):
            self.assertEqual(outcome(lambda: menu[at]), ("BadMenu", at))

    def test_bad_ones(self):
        for bad in [
            None, (), FILL, (FILL,), [FILL, (("nuts",),)], (FILL, (("nuts",),), 1), (FILL, ()), (FILL, ((), ())), (FILL, [("nuts",)]), (FILL, (["nuts"],)), (FILL, ("nuts",)), (FILL, None),
            (FILL, (("egg",),)), (FILL, (("soy", "nuts"),)), (FILL, (("nuts", "nuts"),)), (FILL, (None,)), (WASH, ((),)), (WASH, None), ((("s",), fill("a")), (("nuts",),)), ("s", (("nuts",),)),
            (FILL, ((1,),)), (FILL, {0: ("nuts",)}), ((("nuts",),), FILL),
        ]:
            with self.subTest(bad=bad):
                for kind in (list, tuple):
                    self.assertEqual(outcome(lambda: Menu(PLANT, kind([bad]))), ("BadMenu", 0))
                    self.assertEqual(outcome(lambda: Menu(PLANT, kind([ENTRY, ENTRY, bad, bad]))), ("BadMenu", 2))
                    self.assertEqual(outcome(lambda: Menu(PLANT, kind([ENTRY] * 6 + [bad]))), ("BadMenu", 6))
                    self.assertEqual(outcome(lambda: Menu(PLANT, kind([ENTRY] * 5 + [bad] * 9))), ("BadMenu", 5))
        self.assertEqual(outcome(lambda: Menu(PLANT, [])), ("BadMenu", 0))
        self.assertEqual(outcome(lambda: Menu(PLANT, ())), ("BadMenu", 0))
        self.assertEqual(outcome(lambda: Menu(PLANT, [ENTRY] * 7)), ("BadMenu", 6))
        self.assertEqual(len(Menu(PLANT, [ENTRY] * 6)), 6)


class PlainClaims(unittest.TestCase):
    def test_words(self):
        free, clean = ("free", "nuts"), ("untouched", "soy")
        for claim in [free, clean, ("and", free, clean), ("or", ("and", free, clean), ("or", clean, free)), ("free", "unknown")]:
            self.assertIsNone(check_plain(claim))
        for claim, word in [
            (("since", 1), "since"), (("until", 1), "until"), (("single",), "single"), (("least", (1, 2), ("east",)), "least"), (("most", (1, 2), ("east",)), "most"), (("not", free), "not"),
            (("and", free, ("not", ("since", 1))), "not"), (("and", ("or", free, ("single",)), ("not", free)), "single"), (("or", ("since", 1), ("until", 1)), "since"),
            (("and", ("and", free, free), ("or", clean, ("until", 2))), "until"), (("not", ("since", 1)), "not"),
        ]:
            self.assertEqual(outcome(lambda: check_plain(claim)), ("Unplain", word))
        for claim in [None, (), ("free",), ("not", None), ("and", free), ["free", "nuts"], "free nuts", ("and", ("since", 1), ("free",))]:
            self.assertEqual(outcome(lambda: check_plain(claim)), ("NoClaim", claim))

    def test_can_break(self):
        free, clean = ("free", "nuts"), ("untouched", "nuts")
        for claim, inside, around, told in [
            (free, (), (), False), (free, (), ("nuts",), False), (free, ("nuts",), ("nuts",), True), (free, ("soy",), ("nuts", "soy"), False), (clean, (), (), False), (clean, (), ("nuts",), True),
            (clean, (), ("soy",), False), (("and", free, clean), (), ("nuts",), True), (("or", free, clean), (), ("nuts",), False), (("or", free, clean), ("nuts",), ("nuts",), True),
            (("and", free, ("or", clean, ("free", "soy"))), (), ("nuts", "soy"), False), (("and", free, ("or", clean, ("free", "soy"))), ("soy",), ("nuts", "soy"), True),
        ]:
            self.assertIs(can_break(PLANT, claim, inside, around), told)
        for claim, told in [(None, ("NoClaim", None)), (("free",), ("NoClaim", ("free",))), (("free", "egg"), ("Unknown", "egg")), (("and", ("since", 1), ("untouched", "egg")), ("Unknown", "egg")),
                            (("least", (1, 2), ("north",)), ("Unknown", "north")), (("least", (1, 2), ("east",)), ("Unplain", "least")), (("not", free), ("Unplain", "not"))]:
            self.assertEqual(outcome(lambda: can_break(PLANT, claim, (), ())), told)

    def test_random_ones(self):
        random = Random(1)
        for _ in range(200):
            claim = random_plain(random, PLANT, 3)
            around = tuple(trait for trait in PLANT.traits if random.random() < 0.5)
            inside = tuple(trait for trait in around if random.random() < 0.5)
            self.assertIs(can_break(PLANT, claim, inside, around), breaks(claim, inside, around))


class Dirts(unittest.TestCase):
    def test_small_case(self):
        menu = Menu(PLANT, [ENTRY, (POUR, ((),)), (WASH, ()), (Recipe((), (("drain", "bowl"),)), ())])
        first = first_dirt(PLANT)
        self.assertEqual(first, (None, None))
        self.assertEqual(runs_from(menu, first), (0, 1, 2))
        self.assertEqual(run_in(menu, 0, first), (((5, ("soy",), ("soy",)),), ((("soy",), ("soy",)), None)))
        both = ("nuts", "soy")
        self.assertEqual(run_in(menu, 1, first), (((5, both, both),), ((both, both), ((), both))))
        self.assertEqual(run_in(menu, 2, first), ((), first))
        self.assertIsNone(run_in(menu, 3, first))
        # What was in the rest of b does not come into what is put there, but touches it.
        self.assertEqual(run_in(menu, 1, (None, ((), ("nuts",)))), (((5, both, both),), ((both, both), ((), both))))
        self.assertEqual(run_in(menu, 0, (((), ("nuts",)), ((), both))), (((5, ("soy",), both),), ((("soy",), both), ((), both))))
        self.assertEqual(run_in(menu, 2, ((both, both), ((), both))), ((), (None, ((), both))))
        self.assertEqual(list(dirts(menu))[0], first)

    def test_slots_that_lack_all_or_are_not_used(self):
        recipe = Recipe(("s", "t"), fill("a", "t"))
        menu = Menu(PLANT, [(recipe, ((), ("nuts", "soy"))), (recipe, (("nuts", "soy"), ()))])
        self.assertEqual(run_in(menu, 0, (None, None)), (((5, (), ()),), (((), ()), None)))
        self.assertEqual(run_in(menu, 1, (None, None))[0], ((5, ("nuts", "soy"), ("nuts", "soy")),))

    def test_generator(self):
        self.assertTrue(inspect.isgeneratorfunction(dirts_file.dirts))
        menu = Menu(PLANT, [ENTRY])
        self.assertEqual(list(dirts(menu)), [(None, None), ((("soy",), ("soy",)), None)])

    def test_random_ones(self):
        random = Random(2)
        many = 0
        for _ in range(120):
            menu = random_menu(random)
            rows = all_rows(menu)
            told = list(dirts(menu))
            self.assertEqual(len(told), len(set(told)))
            self.assertEqual(set(told), set(rows))
            self.assertEqual([len(rows[dirt]) for dirt in told], sorted(len(rows[dirt]) for dirt in told))
            many = max(many, len(told))
            for dirt in told:
                runs = [entry for entry in range(len(menu)) if run_again(menu, entry, dirt) is not None]
                self.assertEqual(runs_from(menu, dirt), tuple(runs))
                for entry in range(len(menu)):
                    self.assertEqual(run_in(menu, entry, dirt), run_again(menu, entry, dirt))
        self.assertGreater(many, 8)

    def test_against_lots_that_are_really_taken_in(self):
        """A box can break a claim exactly if some lots that lack what they must make it false."""
        random = Random(3)
        found = {True: 0, False: 0}
        for _ in range(150):
            menu = random_menu(random, plant_with(BOWLS, farms=1, traits=2), 3)
            plant = menu.plant
            stock, dirt, rows, lacks = Stock(plant), first_dirt(plant), [], {}
            boxes = []
            for run in range(random.randint(1, 4)):
                able = runs_from(menu, dirt)
                if not able or len(stock.lot_names()) > 9 or len(stock.box_names()) > 9:
                    break
                entry = random.choice(able)
                recipe, lacking = menu[entry]
                lots = tuple(f"l{run}{k}" for k in range(len(recipe.slots)))
                lacks.update(zip(lots, lacking))
                row = recipe(stock, lots, tuple(f"b{run}x{k}" for k in range(5)))
                told, dirt = run_in(menu, entry, dirt)
                packed = [deed[2] for deed in row if deed[0] == "pack"]
                self.assertEqual([stock.amount(box) for box in packed], [amount for amount, _, _ in told])
                boxes = [(stock.content(box), inside, around) for box, (_, inside, around) in zip(packed, told)]
            there = stock.lot_names()
            worst = World(plant, [(lot, ((1, 1),), tuple(t for t in plant.traits if t not in lacks[lot]), 0) for lot in there])
            for content, inside, around in boxes:
                claim = random_plain(random, plant)
                # As plain claims only lose by traits, the worst world breaks what can be broken.
                broken = not Claim(claim)(plant, content, worst)
                self.assertIs(can_break(plant, claim, inside, around), broken)
                found[broken] += 1
        self.assertTrue(min(found.values()) > 20, found)


if __name__ == "__main__":
    unittest.main()
