"""Tests of things: what they answer, and which are refused."""

import unittest

from labels import CLEAN, EAST, FREE, LATE, kitchen, tautology
from proving import plant_of
from swornlots.claims import claim_formula
from swornlots.clearing import clearing_of
from swornlots.errors import BadTest, Bare, NoThing, TooMany
from swornlots.houses import House
from swornlots.looks import answers_in, check_tests, test_formula as formula_of_test
from swornlots.settling import settling_of
from swornlots.worlds import World

GOOD = (1, "s1", FREE)


class Refused(unittest.TestCase):
    def setUp(self):
        self.house = kitchen()
        self.house.label("b1", tautology(FREE))
        self.house.label("b2", tautology(FREE))
        self.before = self.house.copy()

    def refused(self, boxes, tests, error, *told):
        """All three refuse the boxes or tests alike."""
        for judge in (check_tests, clearing_of, settling_of):
            for kind in (list, tuple):
                with self.subTest(boxes=boxes, tests=tests, judge=judge.__name__):
                    with self.assertRaises(error) as caught:
                        judge(self.house, kind(boxes), kind(tests))
                    self.assertIs(type(caught.exception), error)
                    values = [value for name, value in vars(caught.exception).items() if name != "class_name"]
                    self.assertEqual(values, list(told))
        self.assertTrue(self.house == self.before)

    def test_good_ones(self):
        for tests in [(), (GOOD,), [GOOD] * 5, [(1000, "kettle", EAST), (1, "b3", CLEAN), (7, "s2", LATE)]]:
            for boxes in [(), ["b1"], ("b2", "b1")]:
                self.assertIsNone(check_tests(self.house, boxes, tests))

    def test_boxes_that_are_not_there(self):
        for name in ("b9", "s1", "kettle", "l1", "", None, 7):
            self.refused(["b1", name], [], NoThing, name)
        self.refused(["b3", "b9", "b8"], [(0, "s1", FREE)], NoThing, "b9")

    def test_boxes_without_labels(self):
        self.refused(["b1", "b4", "b3"], [(0, "s1", FREE)], Bare, "b4")
        self.house.bare("b2")
        self.before = self.house.copy()
        self.refused(["b1", "b2"], [], Bare, "b2")

    def test_a_box_that_is_gone(self):
        self.house.do(("end", "b2"))
        self.before = self.house.copy()
        self.refused(["b1", "b2"], [], NoThing, "b2")

    def test_bad_tests(self):
        for bad in [
            (0, "s1", FREE), (1001, "s1", FREE), (True, "s1", FREE), (-1, "s1", FREE), ("1", "s1", FREE), (None, "s1", FREE), ((1, 1), "s1", FREE),
            (1, "s9", FREE), (1, "b9", FREE), (1, "l1", FREE), (1, "pots", FREE), (1, None, FREE), (1, 7, FREE), (1, ["s1"], FREE), (1, (), FREE), (1, "", FREE),
            (1, "s1", None), (1, "s1", ()), (1, "s1", ("free",)), (1, "s1", ["free", "nuts"]), (1, "s1", "free nuts"), (1, "s1", ("free", "egg")),
            (1, "s1", ("least", (1, 2), ("north",))), (1, "s1", ("not", ("untouched", "egg"))), (1, "s1", ("since", True)), [1, "s1", FREE], (1, "s1"),
            (1, "s1", FREE, FREE), (), None, 1, "s1", {1: 1},
        ]:
            self.refused(["b1"], [GOOD, bad, (0, "s1", FREE)], BadTest, 1)
            self.refused([], [bad], BadTest, 0)

    def test_empty_things(self):
        house = House(plant_of(2))
        for deed in [("take", "l1", "pot", 10), ("pack", "pot", "b1", 10), ("sample", "b1", "s1"), ("take", "l2", "kettle", 5), ("drain", "kettle")]:
            house.do(deed)
        self.assertEqual(house.stock_now().touched("pot"), ("l1",))
        for thing, good in [("pot", False), ("kettle", True), ("b1", True), ("s1", True)]:
            if good:
                check_tests(house, (), [(1, thing, FREE)])
            else:
                with self.assertRaises(BadTest):
                    check_tests(house, (), [(1, thing, FREE)])
        house.do(("wash", "kettle"))
        house.do(("forget", "s1"))
        house.do(("end", "b1"))
        for thing in ("pot", "kettle", "b1", "s1"):
            with self.assertRaises(BadTest):
                check_tests(house, (), [(1, thing, FREE)])

    def test_sent_boxes_can_be_looked_at(self):
        self.house.send("b1", "ann")
        self.assertIsNone(check_tests(self.house, ["b1"], [(1, "b1", FREE)]))

    def test_too_many(self):
        self.assertIsNone(check_tests(self.house, (), [GOOD] * 20))
        self.assertTrue(clearing_of(self.house, ["b1"], [GOOD] * 8))
        self.assertTrue(settling_of(self.house, ["b1"], [GOOD] * 5))
        for judge, many in ((clearing_of, 9), (settling_of, 6)):
            for boxes in ((), ("b1",)):
                with self.assertRaises(TooMany) as caught:
                    judge(self.house, boxes, [GOOD] * many)
                self.assertEqual(caught.exception.kind, "test")
            # What is no test goes ahead.
            with self.assertRaises(BadTest) as caught:
                judge(self.house, ["b1"], [GOOD] * many + [None])
            self.assertEqual(caught.exception.number, many)
            with self.assertRaises(Bare):
                judge(self.house, ["b3"], [GOOD] * many)


class Answers(unittest.TestCase):
    def test_formulas(self):
        house = kitchen()
        stock = house.stock_now()
        for thing in ("kettle", "b3", "s2"):
            for claim in (FREE, CLEAN, EAST, LATE, ("not", ("single",))):
                self.assertEqual(formula_of_test(house, (3, thing, claim)), claim_formula(house.plant, stock.content(thing), claim))

    def test_answers(self):
        house = kitchen()
        plain = World.plain(house.plant, ("l1", "l2", "l3"))
        tests = [(1, "s1", FREE), (2, "s2", FREE), (3, "b3", FREE), (4, "b3", CLEAN), (5, "kettle", EAST), (6, "b2", LATE)]
        self.assertEqual(answers_in(house, tests, plain), (True, True, True, True, True, False))
        self.assertEqual(answers_in(house, (), plain), ())
        world = plain.changed(("l2", ((0, 1), (1, 1)), ("nuts",), 5))
        # b3 has been touched by l2, but has nothing of it.
        self.assertEqual(house.stock_now().content("b3"), ((("l3", (1, 1)),), ("l1", "l2", "l3")))
        self.assertEqual(answers_in(house, tests, world), (True, False, True, False, True, False))
        world = world.changed(("l1", ((0, 1), (1, 1)), (), 2))
        self.assertEqual(answers_in(house, list(tests), world), (True, False, True, False, False, True))


if __name__ == "__main__":
    unittest.main()
