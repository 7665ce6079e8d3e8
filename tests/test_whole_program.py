"""What holds over the whole program: what is passed stays as it was, and answers do not depend on what was asked before."""

import copy
import unittest
from random import Random

from buffet import BOWLS, fill, pour, random_menu, random_plain
from cooking import outcome, plant_with, small_recipe
from labels import FREE, LATE, kitchen, put_label, random_labels, random_tests, some_papers
from swornlots.books import Book, read_book, write_book
from swornlots.clearing import clearing_of
from swornlots.cutting import cut, dropped, living, shadow_papers
from swornlots.dirts import dirts, run_in, runs_from
from swornlots.looks import answers_in, check_tests
from swornlots.maps import Map, can_run, map_of, standings
from swornlots.menus import Menu
from swornlots.partings import parting
from swornlots.pledges import hold_up, judge_box
from swornlots.recipes import Recipe, row_of
from swornlots.scripts import read_recipe, write_recipe
from swornlots.settling import settling_of
from swornlots.twins import compare_menus
from swornlots.walking import judge_table, walk
from swornlots.washing import judge_worths, washing_of
from test_houses import told_by

PLANT = plant_with(BOWLS)


class PassedThings(unittest.TestCase):
    def kept(self, do, *things):
        """A call that changes none of the lists and dicts that it is passed."""
        before = copy.deepcopy(things)
        told = outcome(lambda: do(*things))
        self.assertTrue(things == before)
        return told

    def test_lists_stay(self):
        house = kitchen()
        put_label(house, "b2", FREE)
        tests = [(3, "s2", FREE), (2, "b1", LATE)]
        for judge in (check_tests, clearing_of, settling_of):
            self.kept(lambda boxes, told: judge(house, boxes, told), ["b2"], tests)
            self.kept(lambda boxes, told: judge(house, boxes, told), ["b2", "b9"], [*tests, None])
        world = house.papers_now().allowed()
        self.kept(lambda told: answers_in(house, told, world), tests)
        self.kept(Recipe, ["s"], [("take", "s", "a", 5)])
        self.kept(read_recipe, ["recipe s", "take s a 5", "done"])
        self.kept(read_recipe, ["recipe s", "take s a", "done"])
        self.kept(read_book, write_book(house))
        self.kept(read_book, [*write_book(house), "x"])
        self.kept(Book(house).with_acts, [("do", ("drain", "pot")), ("x",)])
        self.kept(lambda recipes, needs: hold_up(PLANT, recipes, needs, (FREE, None)), [Recipe(("s",), fill("a"))], [(None,)])

    def test_menus_stay(self):
        entries = [(Recipe(("s",), fill("a")), (("nuts",),)), (Recipe(("s",), pour("a", "b")), ((),))]
        menu = Menu(PLANT, entries)
        table, orders = list(dirts(menu)), [(0, FREE), (1, ("or", FREE, ("free", "soy")))]
        self.kept(lambda told: judge_table(menu, FREE, told), table)
        self.kept(lambda told: judge_table(menu, FREE, told), [*table, None, []])
        self.kept(lambda told, prices, ties: washing_of(menu, told, ties=ties, prices=prices), orders, [3, 4], [(0, 1)])
        worths = washing_of(menu, orders, prices=(3, 4)).worths
        self.kept(lambda told, worth: judge_worths(menu, told, worth, prices=(3, 4)), orders, worths)
        self.kept(lambda told, worth: judge_worths(menu, told, worth, prices=(3, 4)), orders, {**worths, ((), (None, None)): "x"})
        self.assertEqual(len(entries), 2)

    def test_what_is_told_belongs_to_the_caller(self):
        menu = Menu(PLANT, [(Recipe(("s",), fill("a")), (("nuts",),))])
        first = washing_of(menu, [(0, FREE)], prices=(3, 4))
        before = dict(first.worths)
        first.worths.clear()
        self.assertEqual(washing_of(menu, [(0, FREE)], prices=(3, 4)).worths, before)
        house = kitchen()
        for told in (write_book(house), Book(house).lines):
            told.clear()
        self.assertEqual(write_book(house), Book(house).lines)
        recipe = Recipe(("s",), fill("a"))
        write_recipe(recipe).clear()
        self.assertTrue(read_recipe(write_recipe(recipe)) == recipe)


class AskedBefore(unittest.TestCase):
    def test_houses(self):
        """All answers of a house depend on its acts alone; what is free to tell is left out."""
        random = Random(1)
        for _ in range(12):
            house = kitchen()
            some_papers(random, house, 5)
            boxes = random_labels(random, house)
            tests = random_tests(random, house, 4)
            before = told_by(house)

            def answers(one):
                clearing = outcome(lambda: clearing_of(one, boxes, tests))
                told = clearing[0] if isinstance(clearing, tuple) else (clearing.tests, clearing.price)
                return (told, settling_of(one, boxes, tests).price, shadow_papers(one), living(one), dropped(one), write_book(one), cut(one).lore())

            fresh = answers(read_book(write_book(house)))
            for _ in range(2):
                self.assertEqual(answers(house), fresh)
            self.assertEqual(told_by(house), before)

    def test_menus(self):
        random = Random(2)
        for _ in range(25):
            menu = random_menu(random, plant_with(BOWLS, farms=1, traits=2))
            claim = random_plain(random, menu.plant)
            orders = [(0, claim), (len(menu) - 1, claim)]

            def answers(one):
                walked, washed = walk(one, claim), washing_of(one, orders, prices=(2, 3))
                return (walked.row, walked.box, walked.table and set(walked.table), washed.price, washed.worths, set(dirts(one)),
                        [run_in(one, 0, dirt) for dirt in dirts(one)], [runs_from(one, dirt) for dirt in sorted(dirts(one), key=repr)])

            fresh = [answers(Menu(menu.plant, list(menu))) for _ in range(2)]
            compare_menus(menu, Menu(menu.plant, list(menu)))
            self.assertEqual(fresh[0], fresh[1])
            for _ in range(2):
                self.assertEqual(answers(menu), fresh[0])
            self.assertTrue(menu == Menu(menu.plant, list(menu)))

    def test_recipes(self):
        random = Random(3)
        plant = plant_with()
        stock = kitchen().stock_now()
        for _ in range(40):
            recipe, standing = small_recipe(random, plant, ("s", "t")), random.choice(standings(plant))
            first = outcome(lambda: map_of(plant, recipe, standing))
            outcome(lambda: row_of(recipe, stock, ("l1", "l9"), ("c1", "c2", "c3")))
            parting(plant, recipe, recipe, standing)
            outcome(lambda: judge_box(plant, recipe, standing, (FREE, None), (None, None, None), 0, FREE))
            again = outcome(lambda: map_of(plant, recipe, standing))
            self.assertTrue(first == again)
            self.assertIs(can_run(plant, recipe, standing), isinstance(first, Map))


if __name__ == "__main__":
    unittest.main()
