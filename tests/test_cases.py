"""Worlds for formulas, and closed trees."""

import unittest
from fractions import Fraction
from itertools import combinations
from random import Random

from proving import FALSE, NUTS, SOY, TRUE, is_true, plant_of, random_atom, random_formula, rows_again, share, shuts_again, ties_again
from swornlots.cases import closed, find, way_rows, way_ties
from swornlots.days import Ties
from swornlots.errors import BadFormula, NoLot, TooMany
from swornlots.formulas import true_in
from swornlots.plants import Plant
from swornlots.rows import System
from swornlots.worlds import World

PLANT = plant_of(2)
LOTS = ("l1", "l2")
TIE = ("days", "l1", "l2", 3)
EAST = share({("l1", "east"): 1}, Fraction(1, 2))
BAD = ("bears", "l1", "egg")


class Case(unittest.TestCase):
    def found(self, plant, lots, formulas):
        """The word that is told, with the world or the tree held against [22] to [24]."""
        word, told = find(plant, lots, formulas)
        if word == "world":
            self.assertIsInstance(told, World)
            self.assertTrue(told.plant == plant)
            self.assertEqual(told.lots, tuple(sorted(lots)))
            self.assertTrue(all(is_true(formula, told.rows, plant.farms) for formula in formulas))
            self.assertTrue(all(true_in(formula, told) for formula in formulas))
        else:
            self.assertEqual(word, "tree")
            shuts_again(plant, lots, formulas, told)
            self.assertIs(closed(plant, lots, formulas, told), True)
        return word


class Finding(Case):
    def test_little(self):
        self.assertEqual(self.found(PLANT, (), ()), "world")
        self.assertEqual(self.found(PLANT, ["l2", "l9", "l1"], []), "world")
        self.assertEqual(self.found(PLANT, [], [TRUE, TRUE]), "world")
        for formulas in ([FALSE], [TRUE, FALSE], (NUTS, ("not", TRUE)), [("or", (FALSE, ("and", (NUTS, FALSE))))]):
            self.assertEqual(self.found(PLANT, LOTS, formulas), "tree")
        self.assertEqual(find(PLANT, (), [TRUE, FALSE]), ("tree", ("false", 1)))

    def test_bounds(self):
        east, west = ("l1", "east"), ("l1", "west")
        for formulas, word in [
            ([share({east: 1}, 1), share({west: 1}, 0)], "world"), ([share({east: 1}, 1), ("not", share({west: -1}, 0))], "tree"),
            ([("not", share({east: 1}, 0))], "tree"), ([("not", share({east: -1}, 0))], "world"), ([share({east: -1}, 0)], "world"),
            ([share({east: 1}, 1)], "world"), ([("not", share({east: -1}, -1))], "tree"), ([share({east: 1}, Fraction(1000001, 1000000))], "tree"),
            ([share({east: 1}, Fraction(1, 3)), share({east: -3}, -1)], "world"),
            ([share({east: 1}, Fraction(1, 3)), ("not", share({east: 3}, 1))], "tree"),
            ([("not", share({east: 2}, 1)), ("not", share({east: -2}, Fraction(-999999, 1000000)))], "world"),
            ([("not", share({east: 2}, 1)), ("not", share({east: -2}, -1))], "tree"),
            ([share({}, 0)], "world"), ([share({}, 1)], "tree"), ([("not", share({}, 0))], "tree"), ([("not", share({}, Fraction(1, 9)))], "world"),
            ([share({east: 1, west: 1}, 1)], "world"), ([("not", share({east: 1, west: 1}, 1))], "tree"), ([share({east: 5, west: 5}, 6)], "tree"),
            ([share({east: 1, ("l2", "east"): 1}, 2), share({west: 1, ("l2", "west"): 1}, 0)], "world"),
            ([share({east: 1, ("l2", "east"): 1}, Fraction(3, 2)), ("not", share({("l2", "east"): 1}, Fraction(1, 2)))], "tree"),
            ([share({east: 1, ("l2", "east"): -1}, 1), share({("l2", "west"): 1}, 1)], "world"),
            ([share({east: 1, ("l2", "east"): -1}, 1), ("not", share({("l2", "west"): 1}, 1))], "tree"),
        ]:
            with self.subTest(formulas=formulas):
                self.assertEqual(self.found(PLANT, LOTS, formulas), word)

    def test_one_farm(self):
        plant = plant_of(1)
        self.assertEqual(self.found(plant, LOTS, [share({("l1", "east"): 2}, 2)]), "world")
        self.assertEqual(self.found(plant, LOTS, [("not", share({("l1", "east"): 2}, 2))]), "tree")
        self.assertEqual(self.found(plant, LOTS, [share({("l1", "east"): 2, ("l2", "east"): 1}, 4)]), "tree")

    def test_days(self):
        for formulas, word in [
            ([("days", "", "l1", 5), ("days", "l1", "", -5)], "world"), ([("days", "", "l1", 5), ("days", "l1", "", -6)], "tree"),
            ([("not", ("days", "", "l1", 5)), ("not", ("days", "l1", "", -7))], "world"),
            ([("not", ("days", "", "l1", 5)), ("not", ("days", "l1", "", -6))], "tree"),
            ([TIE, ("days", "l2", "", 9), ("not", ("days", "l1", "", 12))], "tree"), ([TIE, ("days", "l2", "", 9), ("not", ("days", "l1", "", 11))], "world"),
            ([TIE, ("not", ("days", "l1", "l2", 2))], "world"), ([("not", TIE), ("not", ("days", "l2", "l1", -5))], "world"),
            ([("not", TIE), ("not", ("days", "l2", "l1", -4))], "tree"), ([("days", "", "l1", 10 ** 39), ("days", "l1", "", -10 ** 39 - 1)], "tree"),
        ]:
            with self.subTest(formulas=formulas):
                self.assertEqual(self.found(PLANT, LOTS, formulas), word)

    def test_traits(self):
        either = ("or", (NUTS, SOY))
        self.assertEqual(self.found(PLANT, LOTS, [either, ("not", NUTS)]), "world")
        self.assertEqual(self.found(PLANT, LOTS, [either, ("not", NUTS), ("not", SOY)]), "tree")
        self.assertEqual(self.found(PLANT, LOTS, [("or", (NUTS, ("not", NUTS)))]), "world")
        self.assertEqual(self.found(PLANT, LOTS, [("and", (NUTS, ("not", NUTS)))]), "tree")

    def test_only_together(self):
        """Formulas of which each one can be left out, so that some world makes the others true."""
        formulas = [
            ("or", (EAST, ("and", (NUTS, TIE)))), ("or", (("not", EAST), SOY)), ("not", SOY), ("or", (("not", NUTS), ("not", TIE))),
        ]
        self.assertEqual(self.found(PLANT, LOTS, formulas), "tree")
        for k in range(len(formulas)):
            self.assertEqual(self.found(PLANT, LOTS, formulas[:k] + formulas[k + 1:]), "world")

    def test_forced_twice(self):
        """What one formula forces can make it false without the rest of what it forces."""
        other = ("bears", "l1", "soy")
        formula = ("and", (NUTS, other, ("or", (("not", NUTS), ("and", (SOY, ("not", NUTS)))))))
        self.assertEqual(self.found(PLANT, LOTS, [("or", (formula, TIE)), ("not", TIE)]), "tree")
        self.assertEqual(self.found(PLANT, LOTS, [("or", (formula, TIE))]), "world")

    def test_random(self):
        random = Random(24)
        words = []
        for _ in range(1500):
            plant = plant_of(random.randint(1, 4))
            lots = ["l1", "l2", "l3"][:random.randint(1, 3)]
            atoms = [random_atom(random, lots, plant) for _ in range(random.randint(2, 12))]
            words.append(self.found(plant, lots, [random_formula(random, atoms) for _ in range(random.randint(1, 7))]))
        self.assertTrue(300 < words.count("world") < 1200)

    def test_random_clauses(self):
        """Many formulas with `or`, by which much must be tried."""
        random = Random(25)
        words = []
        for k in range(40):
            plant, lots = plant_of(3), ["l%d" % k for k in range(1, 7)]
            atoms = [random_atom(random, lots, plant) for _ in range(30)]
            formulas = [("or", tuple(random.choice([atom, ("not", atom)]) for atom in random.sample(atoms, 3))) for _ in range(70 + k)]
            words.append(self.found(plant, lots, formulas))
        self.assertTrue(3 < words.count("tree") < 37, words.count("tree"))

    def test_strict_bounds_of_different_width(self):
        """Each of some shares is above the one before it, and all are below narrow bounds."""
        lots = ["l%d" % k for k in range(1, 7)]
        for order in (lots, lots[::-1], lots[3:] + lots[:3]):
            east = [(lot, "east") for lot in order]
            rising = [("not", share({a: 1, b: -1}, 0)) for a, b in zip(east, east[1:])]
            for widths in ([1, 2, 3, 4, 5, 6], [6, 6, 6, 5, 5, 5], [2, 9, 2, 9, 2, 9], [1] * 6, [9, 8, 7, 6, 5, 1]):
                narrow = [("not", share({unknown: 1}, Fraction(width, 1000))) for unknown, width in zip(east, widths)]
                self.assertEqual(self.found(PLANT, lots, [("not", share({east[0]: -1}, 0)), *rising, *narrow]), "world")

    def test_random_strict_bounds(self):
        """Share atoms that are denied, so that a world must keep off all their bounds at once."""
        random = Random(29)
        words = []
        for _ in range(300):
            plant, lots = plant_of(random.randint(2, 4)), ["l1", "l2", "l3"]
            formulas = []
            for _ in range(random.randint(4, 12)):
                atom = random_atom(random, lots, plant, ("share",))
                parts = {unknown: Fraction(*fraction) for unknown, fraction in atom[1]}
                near = sum(parts.values()) * Fraction(1, len(plant.farms)) + Fraction(1, random.randint(2, 60))
                formulas.append(("not", share(parts, near)))
            words.append(self.found(plant, lots, formulas))
        self.assertTrue(words.count("world") > 150, words.count("world"))

    def test_long_integers(self):
        random = Random(26)
        words = []
        for _ in range(30):
            big = [random.randint(1, 10 ** 40 - 1) for _ in range(6)]
            parts = {("l1", "east"): Fraction(big[0], big[1]), ("l2", "west"): Fraction(-big[2], big[3])}
            bound = Fraction(big[4], big[5])
            formulas = [share(parts, bound), ("or", (("not", EAST), share({("l2", "west"): big[2]}, big[3] // 2)))]
            words.append(self.found(PLANT, LOTS, formulas))
        self.assertEqual(set(words), {"world", "tree"})

    def test_errors(self):
        for formulas, bad in [([NUTS, BAD], BAD), ([BAD, FALSE, None], BAD), ([FALSE, None, BAD], None), ([("bears", "l9", "nuts"), ("and", [])], ("and", []))]:
            for told in (lambda: find(PLANT, LOTS, formulas), lambda: closed(PLANT, LOTS, formulas, ("false", 0))):
                with self.assertRaises(BadFormula) as caught:
                    told()
                self.assertEqual(caught.exception.formula, bad)
        far = ("and", (NUTS, ("days", "", "l8", 1), ("bears", "l9", "nuts")))
        for formulas, lots, name in [([FALSE, far, SOY], LOTS, "l8"), ([far, SOY], (), "l1"), ([SOY, NUTS], ["l1"], "l2")]:
            for told in (lambda: find(PLANT, lots, formulas), lambda: closed(PLANT, lots, formulas, None)):
                with self.assertRaises(NoLot) as caught:
                    told()
                self.assertEqual(caught.exception.name, name)


class Sizes(Case):
    """Formulas of the size that papers and claims have: 24 papers, claims of 24 atoms, 12 lots."""
    LOTS = tuple(sorted("l%d" % k for k in range(12)))

    def test_halves(self):
        """Half of each lot is from one of three farms: then a sixth of all is from one of them."""
        plant = plant_of(4)
        unknowns = [[(lot, farm) for lot in self.LOTS] for farm in ("east", "north", "west")]
        formulas = [("or", tuple(share({told[k]: 1}, Fraction(1, 2)) for told in unknowns)) for k in range(12)]
        for lots, bound in [(7, Fraction(3, 14)), (12, Fraction(1, 6))]:
            claim = ("or", tuple(share({unknown: Fraction(1, lots) for unknown in told[:lots]}, bound) for told in unknowns))
            self.assertEqual(self.found(plant, self.LOTS[:lots], [*formulas[:lots], claim]), "world")
            denied = [*formulas[:lots], ("not", claim)]
            word, tree = find(plant, self.LOTS[:lots], denied)
            self.assertEqual(word, "tree")
            self.assertTrue(closed(plant, self.LOTS[:lots], denied, tree))

    def test_all_sorts(self):
        random = Random(27)
        words = []
        for _ in range(25):
            plant = Plant(["east", "west", "north"], ["egg", "nuts", "soy"], [("kettle", 100, 0)])
            formulas = []
            for k in range(24):
                lot = self.LOTS[k % 12]
                atoms = [share({(lot, random.choice(plant.farms)): 1}, Fraction(random.randint(1, 9), 10)), ("bears", lot, random.choice(plant.traits)),
                         ("days", lot, "", -random.randint(0, 20)), ("days", *random.sample(self.LOTS, 2), random.randint(-3, 3))]
                formulas.append(("or", tuple(random.sample(atoms, random.randint(1, 3)))))
            formulas.append(self.claim(random, plant, 24))
            words.append(self.found(plant, self.LOTS, formulas))
        self.assertEqual(set(words), {"world", "tree"})

    def claim(self, random, plant, many):
        """The formula of a random claim with so many atoms on a mix of all lots."""
        if many > 1:
            left = random.randint(1, many - 1)
            return (random.choice(["and", "or"]), (self.claim(random, plant, left), self.claim(random, plant, many - left)))
        kind = random.random()
        if kind < 0.6:
            farms = random.sample(plant.farms, random.randint(1, 2))
            told = share({(lot, farm): Fraction(k + 1, 78) for k, lot in enumerate(self.LOTS) for farm in farms}, Fraction(random.randint(1, 9), 10))
        elif kind < 0.8:
            told = ("and", tuple(("days", lot, "", -random.randint(0, 9)) for lot in self.LOTS))
        else:
            told = ("and", tuple(("not", ("bears", lot, random.choice(plant.traits))) for lot in self.LOTS))
        return told if random.random() < 0.6 else ("not", told)

    def test_different_days(self):
        """Six lots with different days of five."""
        lots = self.LOTS[:6]
        formulas = [("and", (("days", lot, "", 0), ("days", "", lot, 5))) for lot in lots]
        formulas += [("or", (("days", a, b, -1), ("days", b, a, -1))) for a, b in combinations(lots, 2)]
        self.assertEqual(self.found(plant_of(1), lots, formulas), "world")
        formulas.append(("not", ("or", tuple(("days", lot, "", -5) for lot in lots))))
        self.assertEqual(self.found(plant_of(1), lots, formulas), "tree")


class Trees(Case):
    def shuts(self, formulas, tree, lots=LOTS):
        told = closed(PLANT, lots, formulas, tree)
        self.assertIn(told, (True, False))
        return told

    def test_false(self):
        formulas = [NUTS, ("or", (SOY, FALSE))]
        tree = ("ask", SOY, ("ask", NUTS, ("false", 0), ("false", 0)), ("false", 1))
        self.assertFalse(self.shuts(formulas, tree))
        formulas.append(("not", SOY))
        good = ("ask", SOY, ("false", 2), ("false", 1))
        self.assertTrue(self.shuts(formulas, good))
        for bad in [("false", 0), ("ask", SOY, ("false", 1), ("false", 2)), ("ask", SOY, ("false", 2), ("false", 3)), ("ask", SOY, ("false", 2), ("false", -2)),
                    ("ask", SOY, ("false", 2), ("false", True)), ("ask", SOY, ("false", 2), ("false", "1")), ("ask", SOY, ("false", 2), ("false",)),
                    ("ask", SOY, ("false", 2)), ("ask", SOY, ("false", 2), ("false", 1), ("false", 1)), ("ask", SOY, ["false", 2], ("false", 1)),
                    ["ask", *good[1:]], ("Ask", *good[1:]), ("ask", SOY, ("falsch", 2), ("false", 1)), ("ask", SOY, ("false", [2]), ("false", 1)),
                    (None, *good[1:]), (["ask"], *good[1:]), ("ask", SOY, (None, 2), ("false", 1))]:
            with self.subTest(bad=bad):
                self.assertFalse(self.shuts(formulas, bad))

    def test_any_value(self):
        for bad in [None, 0, True, "", "false", (), [], {}, ("false",), ("ask",), ("prices",), ("ring",), ("", 0), ("false", None), ("prices", None),
                    ("prices", 0), ("ring", None), ("ring", 0), ("ask", None, None, None), ("prices", ()), ("ring", ())]:
            with self.subTest(bad=bad):
                self.assertFalse(self.shuts([NUTS], bad))
        self.assertTrue(self.shuts([FALSE], ("false", 0)))

    def test_asked(self):
        formulas = [NUTS, ("not", NUTS)]
        leaves = (("false", 1), ("false", 0))
        good = ("ask", NUTS, *leaves)
        self.assertTrue(self.shuts(formulas, good))
        # An atom that no formula has can be asked.
        self.assertTrue(self.shuts(formulas, ("ask", TIE, good, good)))
        self.assertTrue(self.shuts(formulas, ("ask", SOY, good, good)))
        self.assertFalse(self.shuts(formulas, ("ask", NUTS, good, leaves[1])))
        self.assertFalse(self.shuts(formulas, ("ask", SOY, ("ask", NUTS, ("ask", SOY, *leaves), leaves[1]), good)))
        for atom in [("bears", "l3", "nuts"), ("days", "l1", "l3", 1), share({("l3", "east"): 1}, 0), BAD, TRUE, ("not", SOY), ("days", "l1", "l1", 1), None,
                     list(SOY), ("bears", ["l2"], "soy"), ("share", ((("l1", "east"), (2, 2)),), (0, 1)), "SOY", ("days", "l1", "l2", True)]:
            with self.subTest(atom=atom):
                self.assertFalse(self.shuts(formulas, ("ask", atom, good, good)))
                self.assertFalse(self.shuts(formulas, ("ask", NUTS, ("ask", atom, leaves[0], leaves[0]), leaves[1])))

    def test_prices(self):
        east = ("l1", "east")
        most = ("share", ((east, (-1, 1)),), (-1, 3))
        least = share({east: 2}, 1)
        formulas = [most, least]

        def tree(prices, rest=("false", 0)):
            return ("ask", most, ("ask", least, ("prices", prices), ("false", 1)), rest)

        zero, one, half = (0, 1), (1, 1), (1, 2)
        good = (zero,) * 6 + (one, half)
        self.assertTrue(self.shuts(formulas, tree(good)))
        self.assertTrue(self.shuts(formulas, tree((zero,) * 6 + ((2, 1), one))))
        more = ((1, 9), (1, 9), (1, 9), *good[3:])
        self.assertTrue(self.shuts(formulas, tree(more)))
        for bad in [good[:7], (*good, zero), good[1:], (), (zero,) * 8, (zero,) * 6 + ((-1, 1), (-1, 2)), (zero,) * 6 + (one, one), (zero,) * 6 + (half, one),
                    (zero, zero, zero, zero, zero, (1, 9), one, half), ((-1, 5), (-1, 5), (-1, 5), *good[3:]), list(good), (*good[:7], 1), (*good[:7], None),
                    (*good[:7], (2, 4)), (*good[:6], (True, 1), half), (*good[:7], [1, 2])]:
            with self.subTest(bad=bad):
                self.assertFalse(self.shuts(formulas, tree(bad)))
        for word in ("price", "ring", "false", "", None, ("prices",)):
            self.assertFalse(self.shuts(formulas, ("ask", most, ("ask", least, (word, good), ("false", 1)), ("false", 0))))
        # The rows of a way are those that were asked on it, in this order.
        turned = ("ask", least, ("ask", most, ("prices", (zero,) * 6 + (half, one)), ("false", 0)), ("false", 1))
        self.assertTrue(self.shuts(formulas, turned))
        self.assertFalse(self.shuts(formulas, ("ask", least, ("ask", most, ("prices", good), ("false", 0)), ("false", 1))))
        self.assertTrue(self.shuts([most, least], ("ask", NUTS, tree(good), tree(good))))
        # With one lot more there are three rows more.
        self.assertFalse(closed(PLANT, ["l1", "l2", "l3"], formulas, tree(good)))
        self.assertTrue(closed(PLANT, ["l3", "l1", "l2"], formulas, tree((zero,) * 9 + (one, half))))

    def test_strict_prices(self):
        most, least = share({("l1", "east"): -1}, Fraction(-1, 2)), share({("l1", "east"): 2}, 1)
        zero, one = (0, 1), (1, 1)
        for formulas, answers in [([most, ("not", most)], None), ([("not", most), ("not", least)], (False, False)), ([most, least], (True, True))]:
            leaf = ("prices", (zero,) * 3 + ((2, 1), one))
            yes, no = ("false", 0 if answers == (False, False) else 1), ("false", 1)
            tree = ("ask", most, yes, ("ask", least, no, leaf)) if answers == (False, False) else ("ask", most, ("ask", least, leaf, ("false", 1)), ("false", 0))
            self.assertEqual(closed(PLANT, ["l1"], formulas, tree), answers == (False, False))

    def test_rings(self):
        back, third = ("days", "l2", "l1", -4), ("days", "", "l1", 0)
        formulas = [TIE, back]

        def tree(ring):
            return ("ask", TIE, ("ask", third, ("ask", back, ("ring", ring), ("false", 1)), ("ask", back, ("ring", ring), ("false", 1))), ("false", 0))

        self.assertTrue(self.shuts(formulas, tree((0, 2))))
        for bad in [(0, 1), (2, 0), (0, 3), (0, -1), (0,), (), (0, 2, 0, 2), [0, 2], (0, True), None, "02", (0, 1, 2), (False, 2)]:
            with self.subTest(bad=bad):
                self.assertFalse(self.shuts(formulas, tree(bad)))
        self.assertFalse(self.shuts([TIE, ("days", "l2", "l1", -3)], ("ask", TIE, ("ask", ("days", "l2", "l1", -3), ("ring", (0, 1)), ("false", 1)), ("false", 0))))
        # The answer no turns a tie about.
        formulas = [("not", TIE), ("not", back)]
        tree = ("ask", TIE, ("false", 0), ("ask", back, ("false", 1), ("ring", (0, 1))))
        self.assertTrue(self.shuts(formulas, tree))

    def test_trees_told_with_one_thing_wrong(self):
        random = Random(28)
        seen = 0
        for _ in range(300):
            lots = ["l1", "l2"]
            atoms = [random_atom(random, lots, PLANT) for _ in range(6)]
            formulas = [random_formula(random, atoms) for _ in range(6)]
            word, tree = find(PLANT, lots, formulas)
            if word == "tree" and tree[0] == "ask":
                seen += 1
                self.assertFalse(self.shuts(formulas, ("ask", tree[1], tree, tree)))
                self.assertFalse(self.shuts(formulas, tree[:3]))
                self.assertFalse(self.shuts(formulas[1:] + [TRUE], ("ask", tree[1], ("false", 6), tree[3])))
        self.assertGreater(seen, 50)


class Ways(unittest.TestCase):
    ASKED = ((NUTS, True), (EAST, True), (TIE, False), (share({("l2", "west"): 2}, 1), False), (("days", "", "l1", 4), True), (share({}, 1), True))

    def test_rows(self):
        system = way_rows(PLANT, ["l2", "l1"], self.ASKED)
        self.assertIsInstance(system, System)
        self.assertEqual(system.rows, tuple(rows_again(PLANT, LOTS, self.ASKED)))
        self.assertEqual(system.rows[:3], (
            (((("l1", "east"), (-1, 1)),), "<=", (0, 1)), (((("l1", "west"), (-1, 1)),), "<=", (0, 1)),
            (((("l1", "east"), (1, 1)), (("l1", "west"), (1, 1))), "=", (1, 1))))
        self.assertEqual(system.rows[6:], (
            (((("l1", "east"), (-1, 1)),), "<=", (-1, 2)), (((("l2", "west"), (2, 1)),), "<", (1, 1)), ((), "<=", (-1, 1))))
        self.assertEqual(way_rows(PLANT, (), ()).rows, ())

    def test_ties(self):
        ties = way_ties(self.ASKED)
        self.assertIsInstance(ties, Ties)
        self.assertEqual(ties.rows, (("l2", "l1", -4), ("", "l1", 4)))
        self.assertEqual(ties.rows, tuple(ties_again(self.ASKED)))
        self.assertEqual(way_ties(()).rows, ())

    def test_errors(self):
        for asked, bad in [([NUTS, BAD], BAD), ([TRUE, BAD], TRUE), ([("not", NUTS)], ("not", NUTS)), ([("bears", "l9", "nuts"), None], None)]:
            with self.assertRaises(BadFormula) as caught:
                way_rows(PLANT, LOTS, tuple((atom, True) for atom in asked))
            self.assertEqual(caught.exception.formula, bad)
        for asked, name in [([NUTS, ("bears", "l9", "nuts"), ("days", "l8", "l7", 1)], "l9"), ([("days", "", "l8", 0)], "l8")]:
            with self.assertRaises(NoLot) as caught:
                way_rows(PLANT, LOTS, tuple((atom, False) for atom in asked))
            self.assertEqual(caught.exception.name, name)
        with self.assertRaises(TooMany):
            way_rows(PLANT, LOTS, tuple((share({("l1", "east"): 1}, k), True) for k in range(195)))


if __name__ == "__main__":
    unittest.main()
