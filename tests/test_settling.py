"""Settlings, held against all plans."""

import unittest
from functools import lru_cache
from itertools import product
from random import Random

from labels import CLEAN, EAST, FREE, LATE, SOYLESS, holds, kitchen, put_label, random_labels, random_tests, some_papers, tautology
from swornlots.looks import answers_in, test_formula as formula_of_test
from swornlots.settling import Settling, settling_of


class Settlings(unittest.TestCase):
    def cells(self, house, boxes, tests):
        """For each row of answers that some allowed world gives, the sets of what the labels can be there."""
        papers = house.papers_now()
        looks = [formula_of_test(house, test) for test in tests]
        labels = [formula_of_test(house, (1, box, house.label_of(box))) for box in boxes]
        found = {}
        for senses in product([True, False], repeat=len(tests)):
            asked = [look if sense else ("not", look) for look, sense in zip(looks, senses)]
            if papers.search(*asked)[0] == "world":
                found[senses] = tuple(
                    frozenset(sense for sense in (True, False) if papers.search(*asked, label if sense else ("not", label))[0] == "world")
                    for label in labels)
        return found

    def least_price(self, tests, cells):
        """The least price of all plans, by trying each test at each place."""
        @lru_cache(None)
        def price(answers):
            inside = [told for senses, told in cells.items() if all(a in (None, s) for a, s in zip(answers, senses))]
            if not inside:
                return float("-inf")
            best = 0 if len(set(inside)) == 1 else float("inf")
            for k, told in enumerate(answers):
                if told is None:
                    both = [price(answers[:k] + (sense,) + answers[k + 1:]) for sense in (True, False)]
                    best = min(best, tests[k][0] + max(both))
            return best
        return price((None,) * len(tests))

    def checked_plan(self, plan, cells, tests, answers, boxes):
        """The price of a plan that is held against [37], behind these answers."""
        inside = [told for senses, told in cells.items() if all(answers.get(k, sense) == sense for k, sense in enumerate(senses))]
        if not inside:
            self.assertEqual(plan, ("none",))
            return None
        if plan[0] == "end":
            self.assertEqual(len(plan), 2)
            self.assertEqual(len(plan[1]), boxes)
            for told in inside:
                self.assertEqual(tuple(frozenset([word == "sure"]) for word in plan[1]), told)
            self.assertTrue(set(plan[1]) <= {"sure", "never"})
            return 0
        word, k, yes, no = plan
        self.assertEqual(word, "ask")
        self.assertNotIn(k, answers)
        prices = [self.checked_plan(part, cells, tests, {**answers, k: sense}, boxes) for part, sense in ((yes, True), (no, False))]
        return tests[k][0] + max(price for price in prices if price is not None)

    def held(self, house, boxes, tests):
        """The price of a settling that is held against [37], or None."""
        before = house.copy()
        settling = settling_of(house, boxes, tests)
        self.assertTrue(house == before)
        self.assertIsInstance(settling, Settling)
        papers = house.papers_now()
        cells = self.cells(house, boxes, tests)
        if not settling:
            self.assertIs(bool(settling), False)
            self.assertEqual((settling.plan, settling.price), (None, None))
            first, second = settling.apart
            self.assertTrue(first in papers and second in papers)
            self.assertEqual(answers_in(house, tests, first), answers_in(house, tests, second))
            self.assertTrue(any(holds(house, box, house.label_of(box), first) and not holds(house, box, house.label_of(box), second) for box in boxes))
            return None
        self.assertIsNone(settling.apart)
        self.assertEqual(self.checked_plan(settling.plan, cells, tests, {}, len(boxes)), settling.price)
        self.assertEqual(settling.price, self.least_price(tests, cells))
        for senses in cells:
            asked = [look if sense else ("not", look) for look, sense in zip([formula_of_test(house, test) for test in tests], senses)]
            self.called(house, settling, boxes, tests, papers.search(*asked)[1])
        return settling.price

    def called(self, house, settling, boxes, tests, world):
        """An allowed world comes to the right words, by the tests that the plan asks."""
        numbers, words = settling(world)
        self.assertEqual(words, tuple("sure" if holds(house, box, house.label_of(box), world) else "never" for box in boxes))
        answers = answers_in(house, tests, world)
        plan = settling.plan
        for number in numbers:
            self.assertEqual(plan[1], number)
            plan = plan[2] if answers[number] else plan[3]
        self.assertEqual(plan, ("end", words))

    def test_nothing_to_ask(self):
        house = kitchen()
        self.assertEqual(self.held(house, (), ()), 0)
        self.assertEqual(settling_of(house, (), [(5, "s1", FREE)]).plan, ("end", ()))
        house.label("b1", tautology(FREE))
        self.assertEqual(self.held(house, ["b1"], [(5, "s1", FREE)]), 0)
        self.assertEqual(settling_of(house, ["b1"], []).plan, ("end", ("sure",)))
        put_label(house, "b2", FREE)
        house.put_paper(("bears", "l1", "nuts"))
        settling = settling_of(house, ["b1", "b2"], [(5, "s1", FREE)])
        self.assertEqual((settling.plan, settling.price), (("end", ("sure", "never")), 0))

    def test_one_test(self):
        house = kitchen()
        put_label(house, "b1", FREE)
        settling = settling_of(house, ["b1"], [(7, "s1", SOYLESS), (5, "s1", FREE)])
        self.assertEqual((settling.plan, settling.price), (("ask", 1, ("end", ("sure",)), ("end", ("never",))), 5))
        self.assertEqual(self.held(house, ["b1"], [(7, "s1", SOYLESS), (5, "s1", FREE)]), 5)
        self.assertIsNone(self.held(house, ["b1"], [(7, "s1", SOYLESS)]))
        self.assertIsNone(self.held(house, ["b1"], []))

    def test_the_way_counts_and_not_the_sum(self):
        house = kitchen()
        put_label(house, "b2", FREE)
        # If l1 has nuts, l2 need not be looked at.
        tests = [(5, "s1", FREE), (4, "s2", ("or", FREE, ("not", FREE))), (9, "b2", FREE)]
        self.assertEqual(self.held(house, ["b2"], tests), 9)
        tests = [(1, "s1", FREE), (7, "b2", FREE)]
        self.assertEqual(self.held(house, ["b2"], tests), 7)
        put_label(house, "b1", FREE)
        self.assertEqual(self.held(house, ["b1", "b2"], tests), 8)

    def test_none_stands_where_no_world_leads(self):
        house = kitchen([("clause", ((("l1", "nuts"), True), (("l2", "nuts"), False)))])
        put_label(house, "b1", FREE)
        put_label(house, "b2", FREE)
        put_label(house, "b4", CLEAN)
        self.assertEqual(self.held(house, ["b1", "b2", "b4"], [(3, "s1", FREE), (3, "s2", FREE), (1, "b3", EAST)]), 3)

    def test_stays_as_it_is(self):
        house = kitchen()
        put_label(house, "b2", FREE)
        settling = settling_of(house, ["b2"], [(3, "s2", FREE)])
        world = house.papers_now().allowed()
        before = (settling.plan, settling.price, settling(world))
        house.put_paper(("bears", "l1", "nuts"))
        house.do(("end", "b2"))
        house.do(("forget", "s2"))
        self.assertEqual((settling.plan, settling.price, settling(world)), before)

    def test_random_ones(self):
        random = Random(2)
        found = {}
        for _ in range(150):
            house = kitchen()
            some_papers(random, house, random.randint(0, 7))
            boxes = random_labels(random, house)[:random.randint(0, 3)]
            tests = random_tests(random, house, random.randint(0, 4), random.choice([1, 3, 9]))
            # Tests of the boxes themselves, so that there often is a plan.
            tests = (tests + [(random.randint(1, 5), box, house.label_of(box)) for box in boxes if random.random() < 0.7])[-5:]
            price = self.held(house, boxes, tests)
            key = price if price in (None, 0) else "some"
            found[key] = found.get(key, 0) + 1
        self.assertTrue(min(found.get(key, 0) for key in (None, 0, "some")) > 10, found)

    def test_many(self):
        house = kitchen()
        for k in range(4, 13):
            house.do(("take", f"l{k}", "kettle", 10))
        for k in range(5):
            house.do(("pack", "kettle", f"c{k}", 9))
        boxes = [f"c{k}" for k in range(5)]
        for box, claim in zip(boxes, (FREE, EAST, LATE, SOYLESS, ("single",))):
            put_label(house, box, claim)
        for k in range(1, 13):
            house.put_paper(("least", f"l{k}", ("east",), (1, k + 1)))
            house.put_paper(("until", f"l{k}", k + 9))
        tests = [(k + 1, box, house.label_of(box)) for k, box in enumerate(boxes)]
        self.assertEqual(settling_of(house, boxes, tests).price, 15)
        self.assertFalse(settling_of(house, boxes, tests[1:]))


if __name__ == "__main__":
    unittest.main()
