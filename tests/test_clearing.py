"""Clearings, held against all sets of tests."""

import unittest
from itertools import combinations
from random import Random

from labels import CLEAN, EAST, FREE, LATE, SOYLESS, holds, kitchen, put_label, random_labels, random_tests, some_papers, tautology
from proving import shuts_again
from swornlots.cases import closed
from swornlots.claims import claim_formula
from swornlots.clearing import Clearing, clearing_of
from swornlots.errors import NoWorld
from swornlots.looks import answers_in, test_formula as formula_of_test


def all_sets(tests):
    """All sets of tests in their order."""
    sets = [told for many in range(len(tests) + 1) for told in combinations(range(len(tests)), many)]
    return sorted(sets, key=lambda told: (sum(tests[number][0] for number in told), len(told), told))


class Clearings(unittest.TestCase):
    def clears(self, house, boxes, tests, told):
        papers, stock = house.papers_now(), house.stock_now()
        asked = [formula_of_test(house, tests[number]) for number in told]
        labels = [claim_formula(house.plant, stock.content(box), house.label_of(box)) for box in boxes]
        return all(papers.search(*asked, ("not", label))[0] == "tree" for label in labels)

    def held(self, house, boxes, tests):
        """The set and the price of a clearing that is held against [36]; "NoWorld" without a world."""
        before = house.copy()
        papers, stock, lots = house.papers_now(), house.stock_now(), tuple(sorted(house.stock_now().lot_names()))
        looks = [formula_of_test(house, test) for test in tests]
        try:
            clearing = clearing_of(house, boxes, tests)
        except NoWorld as error:
            formulas = [*papers.formulas(), *looks]
            shuts_again(house.plant, lots, formulas, error.tree)
            self.assertTrue(closed(house.plant, lots, formulas, error.tree))
            self.assertEqual(papers.search(*looks)[0], "tree")
            return "NoWorld"
        self.assertTrue(house == before)
        self.assertIsInstance(clearing, Clearing)
        self.assertIsInstance(clearing.worlds, tuple)
        self.assertEqual(papers.search(*looks)[0], "world")
        refuted = []
        for world in clearing.worlds:
            self.assertIn(world, papers)
            self.assertTrue(any(not holds(house, box, house.label_of(box), world) for box in boxes))
            refuted.append({number for number, told in enumerate(answers_in(house, tests, world)) if told})
        if not clearing:
            self.assertIs(bool(clearing), False)
            self.assertEqual((clearing.tests, clearing.price, clearing.trees), (None, None, None))
            self.assertEqual(refuted, [set(range(len(tests)))])
            self.assertFalse(self.clears(house, boxes, tests, range(len(tests))))
            return None
        ordered = all_sets(tests)
        ahead = ordered[:ordered.index(clearing.tests)]
        for told in ahead:
            self.assertTrue(any(set(told) <= yes for yes in refuted), told)
        self.assertTrue(self.clears(house, boxes, tests, clearing.tests))
        self.assertEqual(clearing.price, sum(tests[number][0] for number in clearing.tests))
        self.assertEqual(len(clearing.trees), len(boxes))
        for box, tree in zip(boxes, clearing.trees):
            label = claim_formula(house.plant, stock.content(box), house.label_of(box))
            formulas = [*papers.formulas(), *[looks[number] for number in clearing.tests], ("not", label)]
            shuts_again(house.plant, lots, formulas, tree)
            self.assertTrue(closed(house.plant, lots, formulas, tree))
        return (clearing.tests, clearing.price)

    def test_nothing_to_clear(self):
        house = kitchen()
        self.assertEqual(self.held(house, (), ()), ((), 0))
        self.assertEqual(self.held(house, [], [(5, "s1", FREE)]), ((), 0))
        house.label("b1", tautology(FREE))
        self.assertEqual(self.held(house, ["b1"], []), ((), 0))
        self.assertEqual(self.held(house, ["b1"], [(5, "s1", FREE)]), ((), 0))

    def test_by_price_then_by_number_then_as_tuples(self):
        house = kitchen()
        put_label(house, "b2", FREE)
        self.assertIsNone(self.held(house, ["b2"], []))
        self.assertIsNone(self.held(house, ["b2"], [(1, "s1", FREE), (1, "s2", SOYLESS)]))
        self.assertEqual(self.held(house, ["b2"], [(3, "s2", FREE), (2, "b2", FREE)]), ((1,), 2))
        self.assertEqual(self.held(house, ["b2"], [(3, "s2", FREE), (3, "b2", FREE)]), ((0,), 3))
        # Two tests that together cost as much as one.
        lone = [(1, "b3", CLEAN), (2, "s1", FREE), (3, "b2", FREE)]
        self.assertEqual(self.held(house, ["b2"], lone), ((0,), 1))
        put_label(house, "b4", SOYLESS)
        self.assertEqual(self.held(house, ["b2", "b4"], [(1, "b2", FREE), (1, "b4", SOYLESS), (2, "kettle", ("and", FREE, SOYLESS))]), ((2,), 2))
        self.assertEqual(self.held(house, ["b2", "b4"], [(1, "b2", FREE), (1, "b4", SOYLESS), (3, "kettle", ("and", FREE, SOYLESS))]), ((0, 1), 2))
        same = [(1, "b2", FREE), (1, "b4", SOYLESS), (1, "b4", FREE), (1, "b2", SOYLESS)]
        self.assertEqual(self.held(house, ["b2", "b4"], same), ((0, 1), 2))
        self.assertEqual(self.held(house, ["b4", "b2"], same[::-1]), ((0, 1), 2))

    def test_all_tests(self):
        house = kitchen([("until", "l3", 9)])
        put_label(house, "b3", ("and", LATE, ("and", CLEAN, EAST)))
        tests = [(1000, "pot", LATE), (1000, "pot", CLEAN), (1000, "pot", EAST)]
        self.assertEqual(self.held(house, ["b3"], tests), ((0, 1, 2), 3000))
        self.assertIsNone(self.held(house, ["b3"], tests[:2]))

    def test_papers_and_answers_work_together(self):
        house = kitchen([("clause", ((("l1", "nuts"), True), (("l2", "nuts"), False)))])
        put_label(house, "b2", FREE)
        self.assertEqual(self.held(house, ["b2"], [(9, "s2", FREE), (4, "s1", FREE)]), ((1,), 4))

    def test_no_world(self):
        house = kitchen([("bears", "l1", "nuts")])
        put_label(house, "b2", SOYLESS)
        for boxes in ((), ("b2",)):
            self.assertEqual(self.held(house, boxes, [(1, "s1", SOYLESS), (1, "s1", FREE)]), "NoWorld")
            self.assertEqual(self.held(house, boxes, [(1, "s1", LATE), (1, "s1", ("until", 1))]), "NoWorld")

    def test_stays_as_it_is(self):
        house = kitchen()
        put_label(house, "b2", FREE)
        clearing = clearing_of(house, ["b2"], [(3, "s2", FREE)])
        before = (clearing.tests, clearing.price, clearing.trees, [world.rows for world in clearing.worlds])
        house.do(("take", "l9", "pot", 1))
        house.put_paper(("bears", "l1", "nuts"))
        self.assertEqual((clearing.tests, clearing.price, clearing.trees, [world.rows for world in clearing.worlds]), before)

    def test_boxes_that_are_called_back_or_sent(self):
        house = kitchen()
        put_label(house, "b1", FREE)
        self.assertEqual(self.held(house, ["b1"], [(1, "s1", FREE)]), ((0,), 1))
        house.label("b4", tautology(FREE))
        house.send("b4", "ann")
        self.assertEqual(self.held(house, ["b4", "b1"], [(1, "s1", FREE)]), ((0,), 1))

    def test_random_ones(self):
        random = Random(1)
        found = {}
        for _ in range(160):
            house = kitchen()
            some_papers(random, house, random.randint(0, 6))
            boxes = random_labels(random, house)
            tests = random_tests(random, house, random.randint(0, 5), random.choice([1, 3, 9]))
            # Tests of the boxes themselves, so that there often is a clearing.
            tests += [(random.randint(1, 9), box, house.label_of(box)) for box in boxes if random.random() < 0.6]
            random.shuffle(tests)
            told = self.held(house, boxes, tests[:7])
            key = told if told in (None, "NoWorld") else len(told[0])
            found[key] = found.get(key, 0) + 1
        self.assertTrue({None, "NoWorld", 0, 1, 2} <= set(found), found)

    def test_many(self):
        """8 tests, 16 boxes, 12 lots and 24 papers."""
        house = kitchen()
        for k in range(4, 13):
            house.do(("take", f"l{k}", "kettle", 10))
            house.do(("sample", "kettle", f"t{k}"))
        boxes = [f"c{k}" for k in range(12)]
        for box in boxes:
            house.do(("pack", "kettle", box, 5))
        all_three = ("and", FREE, ("and", EAST, LATE))
        for k, box in enumerate(boxes):
            put_label(house, box, (all_three, FREE, ("and", FREE, LATE))[k % 3])
        for k in range(1, 13):
            house.put_paper(("most", f"l{k}", ("east",), (k, k + 1)))
            house.put_paper(("until", f"l{k}", k + 9))
        self.assertEqual(len(house.stock_now().content("c0")[1]), 11)
        tests = [(100 + k, f"t{k}", FREE) for k in range(5, 13)]
        self.assertFalse(clearing_of(house, boxes, tests))
        tests = [(k, f"t{k}", all_three) for k in range(4, 11)] + [(1000, "kettle", all_three)]
        clearing = clearing_of(house, boxes, tests)
        self.assertEqual((clearing.tests, clearing.price), ((7,), 1000))
        parts = [FREE, ("since", 1), LATE, EAST, SOYLESS, ("least", (2, 3), ("east",)), ("until", 20), ("not", ("single",))]
        tests = [(2 ** k, "kettle", part) for k, part in enumerate(parts)]
        clearing = clearing_of(house, boxes, tests)
        self.assertEqual((clearing.tests, clearing.price), ((0, 2, 3), 13))


if __name__ == "__main__":
    unittest.main()
