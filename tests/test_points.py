"""Points of systems, and prices that shut them."""

import unittest
from fractions import Fraction
from random import Random

from shares import X, Y, Z, do_shut, keeps_all, pair, point, random_system, row, system
from swornlots.points import shuts, solve, sum_of, unkept
from swornlots.rows import System


class Solving(unittest.TestCase):
    def solved(self, told):
        kind, thing = solve(told)
        if kind == "point":
            self.assertTrue(thing in told)
            self.assertEqual(tuple(unknown for unknown, _ in thing), told.unknowns)
            self.assertTrue(keeps_all(told.rows, thing))
            self.assertIsNone(unkept(told, thing))
        else:
            self.assertEqual(kind, "shut")
            self.assertTrue(do_shut(told.rows, thing), (told.rows, thing))
            self.assertIs(shuts(told, thing), True)
        return kind

    def test_random_systems(self):
        random = Random(11)
        kinds = [self.solved(random_system(random)) for _ in range(1500)]
        self.assertGreater(kinds.count("point"), 300)
        self.assertGreater(kinds.count("shut"), 300)

    def test_small_systems(self):
        for rows, kind in [
            ([], "point"),
            ([({}, "<=", 0)], "point"), ([({}, "<", 0)], "shut"), ([({}, "=", 0)], "point"),
            ([({}, "<=", -1)], "shut"), ([({}, "<", -1)], "shut"), ([({}, "=", -1)], "shut"), ([({}, "=", 1)], "shut"),
            ([({}, "<", 1)], "point"), ([({}, "<=", Fraction(1, 9))], "point"),
            ([({X: 1}, "<=", -5)], "point"), ([({X: 1}, "<", -5)], "point"), ([({X: 3}, "=", -5)], "point"),
            ([({X: 1}, "<=", 2), ({X: -1}, "<=", -2)], "point"), ([({X: 1}, "<", 2), ({X: -1}, "<=", -2)], "shut"),
            ([({X: 1}, "<", 2), ({X: -1}, "<", -2)], "shut"), ([({X: 1}, "<=", 2), ({X: -1}, "<", Fraction(-5, 2))], "shut"),
            ([({X: 1}, "<", 2), ({X: -1}, "<", Fraction(-199, 100))], "point"),
            ([({X: 1}, "=", 2), ({X: 2}, "=", 4)], "point"), ([({X: 1}, "=", 2), ({X: 2}, "=", 5)], "shut"),
            ([({X: 1}, "=", 2), ({X: 1}, "<", 2)], "shut"), ([({X: 1}, "=", 2), ({X: 1}, "<=", 2)], "point"),
            ([({X: 1, Y: 1}, "=", 1), ({X: 1, Y: -1}, "=", 0), ({Y: 1}, "<=", Fraction(1, 2))], "point"),
            ([({X: 1, Y: 1}, "=", 1), ({X: 1, Y: -1}, "=", 0), ({Y: 1}, "<", Fraction(1, 2))], "shut"),
            ([({X: 1, Y: -1}, "<=", -1), ({Y: 1, Z: -1}, "<=", -1), ({Z: 1, X: -1}, "<=", 1)], "shut"),
            ([({X: 1, Y: -1}, "<=", -1), ({Y: 1, Z: -1}, "<=", -1), ({Z: 1, X: -1}, "<=", 2)], "point"),
            ([({X: 1, Y: -1}, "<", -1), ({Y: 1, Z: -1}, "<=", -1), ({Z: 1, X: -1}, "<=", 2)], "shut"),
            ([({X: 1, Y: 1}, "<", 1), ({X: -1, Y: 1}, "<", 1), ({X: 1, Y: -1}, "<", 1), ({X: -1, Y: -1}, "<", 1)], "point"),
            ([({X: 10 ** 39 + 1, Y: 10 ** 39}, "=", 1), ({X: 10 ** 39, Y: 10 ** 39 - 1}, "=", 1)], "point"),
        ]:
            with self.subTest(rows=rows):
                self.assertEqual(self.solved(system(*rows)), kind)

    def test_rows_that_are_each_needed(self):
        """No proper part of these rows is without a point, all together are."""
        rows = [({X: 1, Y: 1, Z: 1}, "<=", 1), ({X: -1}, "<=", -1), ({Y: -1}, "<=", 0), ({Z: -1}, "<", 0)]
        self.assertEqual(self.solved(system(*rows)), "shut")
        for k in range(4):
            self.assertEqual(self.solved(system(*rows[:k], *rows[k + 1:])), "point")

    def test_many_rows(self):
        """A ladder of 198 rows, closed or not."""
        names = [("l%d" % (k // 26), "abcdefghijklmnopqrstuvwxyz"[k % 26]) for k in range(199)]
        rows = [({names[k]: 1, names[k + 1]: -1}, "<", 0) for k in range(198)]
        self.assertEqual(self.solved(system(*rows)), "point")
        self.assertEqual(self.solved(system(*rows, ({names[198]: 1, names[0]: -1}, "<=", 1))), "point")
        self.assertEqual(self.solved(system(*rows, ({names[198]: 1, names[0]: -1}, "<=", 0))), "shut")


class Reckoning(unittest.TestCase):
    TOLD = system(({X: 1, Y: 1}, "=", 1), ({X: -1}, "<=", 0), ({Y: -1}, "<", 0))

    def test_unkept(self):
        for values, number in [({X: 0, Y: 1}, None), ({X: 0, Y: 0}, 0), ({X: -1, Y: 2}, 1), ({X: 1, Y: 0}, 2),
                               ({X: 0, Y: 1, Z: 5}, None), ({X: -1, Y: 2, Z: 5}, 1)]:
            self.assertEqual(unkept(self.TOLD, point(values)), number)
        self.assertIsNone(unkept(System(()), ()))

    def test_sum_of(self):
        prices = ((1, 2), (1, 2), (0, 1))
        self.assertEqual(sum_of(self.TOLD, prices), (((Y, (1, 2)),), (1, 2)))
        self.assertEqual(sum_of(self.TOLD, ((0, 1), (0, 1), (0, 1))), ((), (0, 1)))
        self.assertEqual(sum_of(self.TOLD, ((-1, 1), (-2, 1), (3, 1))), (((X, (1, 1)), (Y, (-4, 1))), (-1, 1)))
        self.assertEqual(sum_of(System(()), ()), ((), (0, 1)))

    def test_shuts(self):
        told = system(({X: 1}, "<=", 1), ({X: -1}, "<=", -2), ({X: 1}, "=", 3), ({X: 1}, "<", 2))
        for prices, shut in [
            ((1, 1, 0, 0), True), ((2, 2, 0, 0), True), ((Fraction(1, 3), Fraction(1, 3), 0, 0), True),
            ((0, 0, 0, 0), False), ((1, 0, 0, 0), False), ((1, 2, 0, 0), False), ((-1, -1, 0, 0), False),
            ((1, 0, -1, 0), True), ((-1, 0, 1, 0), False), ((0, 1, 1, 0), False), ((0, 0, -1, 1), True),
            ((0, 1, 0, 1), True), ((0, -1, 0, -1), False), ((0, 0, 1, -1), False),
            ((1, 1, 0), False), ((1, 1, 0, 0, 0), False), ((), False),
        ]:
            self.assertIs(shuts(told, tuple(pair(price) for price in prices)), shut, prices)

    def test_a_bound_of_zero_needs_a_strict_row(self):
        told = system(({X: 1}, "<=", 1), ({X: -1}, "<", -1), ({X: -1}, "<=", -1), ({}, "<", 0), ({}, "<=", 0))
        for prices, shut in [((1, 1, 0, 0, 0), True), ((1, 0, 1, 0, 0), False), ((0, 0, 0, 1, 0), True), ((0, 0, 0, 0, 1), False),
                             ((1, 0, 1, 2, 0), True)]:
            self.assertIs(shuts(told, tuple(pair(price) for price in prices)), shut, prices)
        self.assertIs(shuts(System(()), ()), False)

    def test_prices_below_zero_and_bounds_above_zero(self):
        for rows, prices, shut in [
            ([({X: 1}, "<=", 2), ({X: -1}, "<=", -1)], (-1, -1), False), ([({X: 1}, "<", 2), ({X: -1}, "<", -1)], (-1, -1), False),
            ([({}, "<=", 1)], (-1,), False), ([({}, "=", 1)], (-1,), True), ([({}, "<", 1)], (1,), False),
            ([({X: 1}, "<", 2), ({X: -1}, "<=", -1)], (1, 1), False), ([({}, "=", 1), ({}, "<", 1)], (-1, 1), True),
            ([({}, "=", 1), ({}, "<", 2)], (-1, 1), False),
        ]:
            self.assertIs(shuts(system(*rows), tuple(pair(price) for price in prices)), shut, rows)

    def test_prices_that_were_told_may_be_passed_back(self):
        rows = [row({X: 10 ** 39 + k, Y: 10 ** 39 - k * k}, "<=", 1 - k) for k in range(1, 6)]
        rows += [row({X: -(10 ** 39), Y: -(10 ** 39)}, "<=", -1)]
        told = System(rows)
        kind, thing = solve(told)
        self.assertTrue(shuts(told, thing) if kind == "shut" else thing in told)


if __name__ == "__main__":
    unittest.main()
