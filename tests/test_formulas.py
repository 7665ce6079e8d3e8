"""Atoms and formulas."""

import unittest
from itertools import product
from random import Random

from proving import FALSE, NUTS, SOY, TRUE, is_true, kleene, plant_of, random_atom, random_formula, share
from swornlots.errors import BadFormula, NoLot
from swornlots.formulas import atoms_of, check_formula, known, lots_of, true_in
from swornlots.worlds import World

PLANT = plant_of(2)
BIG = 10 ** 40 - 1
EAST = share({("l1", "east"): 1}, 0)
TIE = ("days", "l1", "l2", 3)


def nested(levels, formula=NUTS):
    """A formula so many levels deep."""
    for k in range(levels - 1):
        formula = ("not", formula) if k % 3 == 0 else (["and", "or"][k % 2], (formula,))
    return formula


def random_world(random, plant, lots):
    rows = []
    for lot in lots:
        cuts = sorted(random.randint(0, 4) for _ in plant.farms[1:])
        shares = [b - a for a, b in zip([0, *cuts], [*cuts, 4])]
        pairs = {0: (0, 1), 1: (1, 4), 2: (1, 2), 3: (3, 4), 4: (1, 1)}
        traits = tuple(trait for trait in plant.traits if random.random() < 0.5)
        rows.append((lot, tuple(pairs[n] for n in shares), traits, random.randint(-4, 4)))
    return World(plant, rows)


class Checking(unittest.TestCase):
    def refused(self, formula, plant=PLANT):
        with self.assertRaises(BadFormula) as caught:
            check_formula(plant, formula)
        self.assertIs(caught.exception.formula, formula)

    def test_good(self):
        for formula in [
            NUTS, SOY, TIE, EAST, TRUE, FALSE, share({}, 1), share({}, -1), ("days", "", "l1", -BIG), ("days", "l9", "", BIG),
            ("share", ((("l1", "west"), (BIG, BIG - 1)),), (1 - BIG, BIG)), ("not", ("not", TRUE)), ("and", (NUTS, NUTS)), ("or", (FALSE, ("not", TIE))),
        ]:
            with self.subTest(formula=formula):
                self.assertIsNone(check_formula(PLANT, formula))

    def test_bad_atoms(self):
        unknown = ("l1", "east")
        for bad in [
            ("share", ((unknown, (0, 1)),), (0, 1)), ("share", ((unknown, (2, 4)),), (0, 1)), ("share", ((unknown, (1, 1)),), 0),
            ("share", ((unknown, (1, 1)),), (2, 4)), ("share", ((("l1", "south"), (1, 1)),), (0, 1)), ("share", [(unknown, (1, 1))], (0, 1)),
            ("share", ((["l1", "east"], (1, 1)),), (0, 1)), ("share", ((("L1", "east"), (1, 1)),), (0, 1)), ("share", ((unknown, (1, 1)),)),
            ("share", ((("l2", "east"), (1, 1)), (unknown, (1, 1))), (0, 1)), ("share", ((unknown, (1, 1)), (unknown, (1, 1))), (0, 1)),
            ("share", ((unknown, (1, 1)),), (0, 1), "<="), ("share", (), (True, 1)), ("share", None, (0, 1)),
            ("bears", "l1", "egg"), ("bears", "", "nuts"), ("bears", "l1"), ("bears", "l1", "nuts", True), ("bears", "or", "nuts"), ("bears", 1, "nuts"),
            ("bears", "l1", ["nuts"]), ("bears", "l1", None), ("days", "l1", "l1", 0), ("days", "", "", 0), ("days", "l1", "l2", True),
            ("days", "l1", "l2"), ("days", "l1", "l2", 1, 1), ("days", "l1", "L2", 1), ("days", "l1", "l2", "1"), ("days", "l1", "l2", (1, 1)),
            ("least", "l1", ("east",), (1, 2)), ("apart", "l1", "l2", 1), ("day", "l1", "", 1), ("",), (), None, True, 7, "nuts", [], ["bears", "l1", "nuts"], (NUTS,), (None, NUTS), ({}, ()),
        ]:
            for formula in (bad, ("not", bad), ("and", (NUTS, bad)), ("or", (("not", ("and", (bad, NUTS))), NUTS))):
                with self.subTest(formula=formula):
                    self.refused(formula)

    def test_bad_joints(self):
        for bad in [("not",), ("not", NUTS, NUTS), ("not", (NUTS,)), ("and", NUTS), ("and", [NUTS]), ("or",), ("or", (NUTS,), (NUTS,)), ("and", NUTS, NUTS),
                    ("xor", (NUTS, SOY)), ["not", NUTS], ("and", None), ("or", "nuts"), (["and"], ()), ("and", {}), ("not", ())]:
            with self.subTest(bad=bad):
                self.refused(bad)
                self.refused(("and", (bad,)))

    def test_levels(self):
        for inner in (NUTS, TRUE, EAST):
            self.assertIsNone(check_formula(PLANT, nested(20, inner)))
            self.refused(nested(21, inner))
        self.assertIsNone(check_formula(PLANT, ("and", (NUTS, nested(19), SOY))))
        self.refused(("and", (NUTS, nested(20), SOY)))
        self.refused(nested(400))

    def test_atoms(self):
        self.assertIsNone(check_formula(PLANT, ("or", (NUTS,) * 600)))
        self.refused(("or", (NUTS,) * 601))
        self.assertIsNone(check_formula(PLANT, ("or", (("and", (NUTS, SOY, TIE)), TRUE) * 200)))
        self.refused(("or", (("and", (NUTS, SOY, TIE)), TRUE) * 200 + (("not", EAST),)))
        doubled = NUTS
        for _ in range(19):
            doubled = ("and", (doubled, doubled))
        self.refused(doubled)
        self.assertIsNone(check_formula(PLANT, ("and", (TRUE,) * 2000)))


class Telling(unittest.TestCase):
    def test_atoms_and_lots(self):
        both = share({("l9", "east"): 1, ("l3", "west"): -1}, 0)
        formula = ("or", (("not", ("days", "", "l7", 1)), ("and", (both, NUTS, ("days", "", "l7", 1))), TRUE, both, ("bears", "l1", "soy")))
        self.assertEqual(atoms_of(formula), (("days", "", "l7", 1), both, NUTS, ("bears", "l1", "soy")))
        self.assertEqual(lots_of(formula), ("l1", "l3", "l7", "l9"))
        self.assertEqual((atoms_of(TRUE), lots_of(FALSE), atoms_of(NUTS), lots_of(("days", "b", "a", 1))), ((), (), (NUTS,), ("a", "b")))

    def test_true_in_small(self):
        world = World(PLANT, [("l1", ((1, 3), (2, 3)), ("nuts",), 5), ("l2", ((1, 1), (0, 1)), (), 8)])
        for formula, truth in [
            (NUTS, True), (SOY, False), (TRUE, True), (FALSE, False), (("days", "l1", "l2", 3), True), (("days", "l1", "l2", 2), False),
            (("days", "l2", "l1", -3), True), (("days", "l2", "l1", -4), False), (("days", "", "l1", 5), True), (("days", "", "l1", 4), False),
            (("days", "l1", "", -5), True), (("days", "l1", "", -6), False), (share({("l1", "east"): 3}, 1), True),
            (("share", ((("l1", "east"), (1, 1)),), (BIG // 3 + 1, BIG)), False), (share({("l1", "west"): 1, ("l2", "east"): -1}, -1), True),
            (share({}, 0), True), (("share", (), (1, BIG)), False), (("not", share({("l1", "east"): -3}, -1)), False),
        ]:
            with self.subTest(formula=formula):
                self.assertIs(true_in(formula, world), truth)
                self.assertIs(true_in(("not", formula), world), not truth)
                self.assertIs(true_in(("or", (FALSE, ("and", (TRUE, formula)))), world), truth)

    def test_true_in_random(self):
        random = Random(22)
        truths = []
        for _ in range(600):
            plant = plant_of(random.randint(1, 4))
            lots = ["l1", "l2", "l3"]
            formula = random_formula(random, [random_atom(random, lots, plant) for _ in range(6)])
            world = random_world(random, plant, lots)
            truths.append(true_in(formula, world))
            self.assertEqual(truths[-1], is_true(formula, world.rows, plant.farms))
        self.assertTrue(150 < sum(truths) < 450)

    def test_no_lot(self):
        world = World.plain(PLANT, ["l1"])
        both = share({("l4", "east"): 1, ("l3", "west"): -1}, 0)
        for formula, name in [
            (SOY, "l2"), (both, "l3"), (("and", (FALSE, NUTS, both, SOY)), "l3"), (("or", (NUTS, ("days", "l9", "l8", 1))), "l9"),
            (("or", (NUTS, ("days", "", "l8", 1), SOY)), "l8"), (("not", ("days", "l1", "l2", 1)), "l2"),
        ]:
            with self.assertRaises(NoLot) as caught:
                true_in(formula, world)
            self.assertEqual(caught.exception.name, name)
        self.assertTrue(true_in(TRUE, World(PLANT, ())))

    def test_known(self):
        answers = ((NUTS, True), (SOY, False))
        for formula, told in [
            (NUTS, True), (SOY, False), (TIE, None), (("not", TIE), None), (("not", SOY), True), (("and", (TIE, SOY)), False),
            (("and", (TIE, NUTS)), None), (("and", (NUTS, ("not", SOY))), True), (("or", (TIE, NUTS)), True), (("or", (TIE, SOY)), None),
            (("or", (SOY, ("not", NUTS))), False), (TRUE, True), (FALSE, False), (("or", (("and", (TIE, SOY)), ("not", TIE))), None),
            # Unknown is unknown, although the formula is true whatever the answer.
            (("or", (TIE, ("not", TIE))), None),
        ]:
            with self.subTest(formula=formula):
                self.assertIs(known(formula, answers), told)
                self.assertIs(known(formula, (*answers, (EAST, True))), told)
        self.assertIsNone(known(NUTS, ()))

    def test_known_random(self):
        random = Random(23)
        atoms = [random_atom(random, ["l1", "l2"], PLANT) for _ in range(5)]
        atoms = list(dict.fromkeys(atoms))
        for _ in range(300):
            formula = random_formula(random, atoms)
            answers = tuple((atom, random.random() < 0.5) for atom in atoms if random.random() < 0.5)
            told = known(formula, answers)
            self.assertIs(told, kleene(formula, answers))
            rest = [atom for atom in atoms if atom not in dict(answers)]
            for row in product([False, True], repeat=len(rest)):
                if told is not None:
                    self.assertIs(known(formula, (*answers, *zip(rest, row))), told)


if __name__ == "__main__":
    unittest.main()
