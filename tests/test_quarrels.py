"""Least quarrels."""

import unittest
from itertools import combinations
from random import Random

from proving import FALSE, NUTS, SOY, TRUE, plant_of, random_atom, random_formula, share
from swornlots.cases import find
from swornlots.quarrels import least_quarrel

PLANT = plant_of(2)
LOTS = ("l1", "l2")


class Quarrels(unittest.TestCase):
    def test_small(self):
        not_nuts = ("not", NUTS)
        east = share({("l1", "east"): 1}, 1)
        for fixed, formulas, told in [
            ((), (), None), ((), (TRUE, NUTS, SOY), None), ((FALSE,), (), ()), ((NUTS, not_nuts), (SOY, FALSE), ()), ((), (FALSE,), (0,)),
            ((), (NUTS, SOY, not_nuts), (0, 2)), ((NUTS,), (SOY, not_nuts), (1,)), ([NUTS], [SOY, TRUE], None), ((NUTS, SOY), (("not", ("and", (NUTS, SOY))),), (0,)),
            ((), (east, SOY, share({("l1", "west"): 2}, 1)), (0, 2)), ((), (("days", "l1", "l2", 1), SOY, ("days", "l2", "", 1), ("days", "", "l1", -3)), (0, 2, 3)),
        ]:
            with self.subTest(fixed=fixed, formulas=formulas):
                self.assertEqual(least_quarrel(PLANT, LOTS, fixed, formulas), told)

    def test_random(self):
        random = Random(31)
        sizes = {}
        for _ in range(400):
            atoms = [random_atom(random, LOTS, PLANT) for _ in range(5)]
            formulas = [random_formula(random, atoms, 2) for _ in range(random.randint(0, 7))]
            fixed = [random_formula(random, atoms, 2) for _ in range(random.randint(0, 2))]
            told = least_quarrel(PLANT, LOTS, fixed, formulas)
            whole = find(PLANT, LOTS, [*fixed, *formulas])[0]
            self.assertEqual(told is None, whole == "world")
            sizes[told and len(told)] = sizes.get(told and len(told), 0) + 1
            if told is None:
                continue
            self.assertEqual(told, tuple(sorted(set(told))))
            self.assertEqual(find(PLANT, LOTS, [*fixed, *[formulas[k] for k in told]])[0], "tree")
            for some in combinations(told, max(0, len(told) - 1)):
                if told:
                    self.assertEqual(find(PLANT, LOTS, [*fixed, *[formulas[k] for k in some]])[0], "world")
            if told == ():
                self.assertEqual(find(PLANT, LOTS, fixed)[0], "tree")
        self.assertTrue({None, (), 1, 2, 3} <= set(sizes), sizes)


if __name__ == "__main__":
    unittest.main()
