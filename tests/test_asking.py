"""Questions about allowed worlds."""

import unittest
from fractions import Fraction
from random import Random

from offices import office, put_some
from proving import NUTS, SOY, TRUE, is_true, random_atom, random_formula, share, shuts_again
from shares import pair
from swornlots.asking import answer, first_day, greatest_share, last_day, least_share
from swornlots.cases import closed, find
from swornlots.errors import BadFormula, NoLot, NoThing
from swornlots.papers import Papers

LOTS = ("l1", "l2", "l3")


def value_in(world, content, farms):
    """The share of some farms in a content, in a world."""
    return sum((Fraction(*part) * Fraction(*world.share(lot, farm)) for lot, part in content[0] for farm in farms), Fraction(0))


class Asking(unittest.TestCase):
    def setUp(self):
        self.stock = office()
        self.papers = Papers(self.stock)

    def test_answers(self):
        papers = self.papers
        self.assertEqual(answer(papers, NUTS), "open")
        papers.put(("bears", "l1", "nuts"))
        papers.put(("found", "s1", "soy"))
        papers.put(("least", "l2", ("east",), (1, 2)))
        for formula, told in [(NUTS, "sure"), (("not", NUTS), "never"), (SOY, "open"), (("or", (SOY, ("bears", "l1", "soy"))), "sure"), (TRUE, "sure"),
                              (("not", TRUE), "never"), (share({("l2", "west"): -2}, -1), "sure"), (share({("l2", "west"): -2}, Fraction(-99, 100)), "open"),
                              (("not", share({("l2", "east"): 2}, 1)), "never"), (("days", "l1", "", 0), "open")]:
            self.assertEqual(answer(papers, formula), told, formula)
        deep = NUTS
        for _ in range(19):
            deep = ("and", (deep,))
        self.assertEqual(answer(papers, deep), "sure")

    def test_errors(self):
        deep = NUTS
        for _ in range(20):
            deep = ("and", (deep,))
        for bad in (None, ("bears", "l9", "egg"), deep, [NUTS]):
            with self.assertRaises(BadFormula) as caught:
                answer(self.papers, bad)
            self.assertEqual(caught.exception.formula, bad)
        with self.assertRaises(NoLot) as caught:
            answer(self.papers, ("or", (NUTS, ("days", "l8", "l9", 1))))
        self.assertEqual(caught.exception.name, "l8")
        for lot in ("l9", "b1", "s1", "kettle", "", None, ["l1"], 1):
            for told in (last_day, first_day):
                with self.assertRaises(NoThing) as caught:
                    told(self.papers, lot)
                self.assertEqual(caught.exception.name, lot)

    def held_share(self, told, sign, content, farms):
        """Holds the greatest (1) or least (-1) share against [27]."""
        value, world, tree = told
        self.assertIn(world, self.papers)
        self.assertEqual(value_in(world, content, farms), Fraction(*value))
        parts = {(lot, farm): -sign * Fraction(*part) for lot, part in content[0] for farm in farms}
        beyond = ("not", share(parts, -sign * Fraction(*value)))
        formulas = [*self.papers.formulas(), beyond]
        shuts_again(self.stock.plant, self.stock.lot_names(), formulas, tree)
        self.assertTrue(closed(self.stock.plant, self.stock.lot_names(), formulas, tree))
        return Fraction(*value)

    def ends(self, thing, farms):
        content = self.stock.content(thing)
        low = self.held_share(least_share(self.papers, content, farms), -1, content, farms)
        high = self.held_share(greatest_share(self.papers, content, farms), 1, content, farms)
        self.assertLessEqual(low, high)
        return (low, high)

    def test_shares(self):
        papers = self.papers
        self.assertEqual(self.ends("s1", ("east",)), (0, 1))
        self.assertEqual(self.ends("s1", ("east", "west")), (1, 1))
        papers.put(("least", "l2", ("east",), (2, 5)))
        papers.put(("most", "l1", ("east",), (1, 3)))
        self.assertEqual(self.ends("s1", ("east",)), (Fraction(3, 10), Fraction(5, 6)))
        self.assertEqual(self.ends("s1", ("west",)), (Fraction(1, 6), Fraction(7, 10)))
        papers.put(("says", ("or", (share({("l2", "west"): 1}, Fraction(1, 2)), share({("l1", "west"): 1}, 1)))))
        self.assertEqual(self.ends("s1", ("east",)), (Fraction(3, 10), Fraction(3, 4)))
        papers.put(("says", ("or", (share({("l1", "west"): -1}, Fraction(-99, 100)), ("days", "l1", "", -3)))))
        self.assertEqual(self.ends("s1", ("east",)), (Fraction(3, 10), Fraction(3, 4)))
        papers.put(("until", "l1", 2))
        self.assertEqual(self.ends("s1", ("east",))[1], Fraction(1, 2) * Fraction(3, 4) + Fraction(1, 12))

    def test_many_steps(self):
        """One of many bounds is enough, so the loosest one is the end."""
        bounds = [Fraction(k, 50) for k in range(1, 50)]
        self.papers.put(("says", ("or", tuple(share({("l1", "east"): -1}, -bound) for bound in bounds))))
        self.papers.put(("says", ("or", tuple(share({("l2", "east"): 1}, bound) for bound in bounds))))
        self.papers.put(("says", ("or", tuple(("days", "", "l3", k) for k in range(60)))))
        self.assertEqual(self.ends("s1", ("east",)), (Fraction(3, 200), Fraction(49, 200) + Fraction(3, 4)))
        self.assertEqual(last_day(self.papers, "l3")[0], 59)

    def test_days(self):
        papers = self.papers
        self.assertEqual((last_day(papers, "l1"), first_day(papers, "l1")), ((None, None), (None, None)))
        papers.put(("from", "l1", 4))
        papers.put(("apart", "l1", "l2", 3))
        papers.put(("says", ("or", (("days", "", "l2", 9), ("days", "", "l2", 12)))))
        self.assertEqual(last_day(papers, "l1"), (None, None))
        for told, sign, lot, day in [(first_day, -1, "l1", 4), (last_day, 1, "l2", 12)]:
            self.held_day(told(papers, lot), sign, lot)
            self.assertEqual(told(papers, lot)[0], day)
        self.assertEqual(first_day(papers, "l2"), (None, None))
        papers.put(("says", ("not", ("days", "l1", "l2", 0))))
        self.assertEqual((first_day(papers, "l2")[0], last_day(papers, "l1")[0]), (5, 11))
        self.assertEqual(last_day(papers, "l3"), (None, None))
        papers.put(("says", ("or", (("bears", "l3", "nuts"), ("and", (("days", "", "l3", 1), ("days", "l3", "", 1)))))))
        self.assertEqual(last_day(papers, "l3"), (None, None))
        papers.put(("lacks", "l3", "nuts"))
        self.assertEqual((first_day(papers, "l3")[0], last_day(papers, "l3")[0]), (-1, 1))

    def held_day(self, told, sign, lot):
        """Holds the last (1) or first (-1) day of a lot against [27]; whether there is one."""
        day, world = told
        far = day + sign if day is not None else sign * 10 ** 9
        beyond = ("days", lot, "", -far) if sign > 0 else ("days", "", lot, far)
        word, _ = find(self.stock.plant, self.stock.lot_names(), [*self.papers.formulas(), beyond])
        if day is None:
            self.assertIsNone(world)
            self.assertEqual(word, "world")
            return False
        self.assertEqual(word, "tree")
        self.assertIn(world, self.papers)
        self.assertEqual(world.day(lot), day)
        return True

    def test_random(self):
        random = Random(32)
        seen = {}
        for _ in range(60):
            self.stock = office(random.randint(1, 4))
            self.papers = Papers(self.stock)
            put_some(random, self.papers, random.randint(0, 20))
            farms = self.stock.plant.farms
            for thing in ("s1", "s2"):
                self.ends(thing, tuple(farm for farm in farms if random.random() < 0.5) or farms[:1])
            for lot in LOTS:
                for told, sign in ((last_day, 1), (first_day, -1)):
                    is_there = self.held_day(told(self.papers, lot), sign, lot)
                    seen[is_there] = seen.get(is_there, 0) + 1
            atoms = [random_atom(random, LOTS, self.stock.plant) for _ in range(4)]
            formula = random_formula(random, atoms)
            word = answer(self.papers, formula)
            truths = [find(self.stock.plant, LOTS, [*self.papers.formulas(), told])[0] == "world" for told in (formula, ("not", formula))]
            self.assertEqual(word, {(True, True): "open", (True, False): "sure", (False, True): "never"}[tuple(truths)])
            self.assertTrue(is_true(formula, self.papers.allowed().rows, farms) != (word == "never") or word == "open")
            seen[word] = seen.get(word, 0) + 1
        self.assertTrue(min(seen.values()) > 3 and len(seen) == 5, seen)

    def test_fractions_of_shares(self):
        self.papers.put(("measured", "s1", ("east",), (1, 7), (5, 9)))
        self.assertEqual(self.ends("s1", ("east",)), (Fraction(1, 7), Fraction(5, 9)))
        self.assertEqual(greatest_share(self.papers, self.stock.content("s1"), ("east",))[0], pair(Fraction(5, 9)))


if __name__ == "__main__":
    unittest.main()
