"""Greatest and least ends of forms."""

import unittest
from fractions import Fraction
from random import Random

from shares import UNKNOWNS, X, Y, Z, are_prices, do_shut, keeps_all, pair, random_number, random_system, row, sums, system, value
from swornlots.ends import End, greatest, least
from swornlots.errors import BadRow, Shut, Strict
from swornlots.rows import System

HULL = system(({X: 1, Y: 1}, "<=", 4), ({X: -1}, "<=", 0), ({Y: -1}, "<=", 0), ({X: 1}, "<=", 3))


def parts(numbers):
    return row(numbers, "<=", 0)[0]


class Ends(unittest.TestCase):
    def as_told(self, told, form, end, side):
        """All that [13] says of an end; side is 1 for the greatest, -1 for the least one."""
        names = tuple(sorted({*told.unknowns, *[unknown for unknown, _ in form]}))
        self.assertEqual(tuple(unknown for unknown, _ in end.point), names)
        self.assertTrue(keeps_all(told.rows, end.point))
        turned = {unknown: side * Fraction(*fraction) for unknown, fraction in form}
        if end:
            self.assertIsNone(end.ray)
            values = {unknown: Fraction(*fraction) for unknown, fraction in end.point}
            self.assertEqual(Fraction(*end.value), value(form, values))
            self.assertTrue(are_prices(told.rows, end.prices))
            self.assertEqual(sums(told.rows, end.prices), (turned, side * Fraction(*end.value)))
            return "value"
        self.assertEqual((end.value, end.prices), (None, None))
        self.assertEqual(tuple(unknown for unknown, _ in end.ray), names)
        step = {unknown: Fraction(*fraction) for unknown, fraction in end.ray}
        self.assertGreater(side * value(form, step), 0)
        for one, sign, _ in told.rows:
            grows = value(one, step)
            self.assertTrue(grows == 0 if sign == "=" else grows <= 0)
        return "ray"

    def random_form(self, random, told):
        """A form of any unknowns, or one that grows with the sum of some rows and so has an end."""
        if random.random() < 0.5:
            return sums(told.rows, [pair(random.randint(0, 2)) for _ in told.rows])[0]
        return {u: f for u in UNKNOWNS if random.random() < 0.5 and (f := random_number(random))}

    def test_random_systems(self):
        random = Random(5)
        kinds = []
        for _ in range(1500):
            told = random_system(random, signs=("<=", "<=", "<=", "="))
            form = parts(self.random_form(random, told))
            side = random.choice([1, -1])
            try:
                end = (greatest if side == 1 else least)(told, form)
            except Shut as error:
                self.assertTrue(do_shut(told.rows, error.prices))
                kinds.append("shut")
                continue
            self.assertIsInstance(end, End)
            kinds.append(self.as_told(told, form, end, side))
        self.assertGreater(min(kinds.count(kind) for kind in ("shut", "value", "ray")), 150)

    def test_values(self):
        for form, low, high in [({X: 1, Y: 2}, 0, 8), ({X: 1}, 0, 3), ({X: -1, Y: Fraction(1, 2)}, -3, 2), ({}, 0, 0),
                                ({X: 2, Y: 1}, 0, 7)]:
            top, bottom = greatest(HULL, parts(form)), least(HULL, parts(form))
            self.assertEqual((top.value, bottom.value), (pair(high), pair(low)))
            self.assertIs(bool(top), True)
            self.assertEqual(self.as_told(HULL, parts(form), top, 1), "value")
            self.assertEqual(self.as_told(HULL, parts(form), bottom, -1), "value")

    def test_no_end(self):
        told = system(({X: 1, Y: -1}, "<=", 1))
        for form in [{X: 1}, {Y: 1}, {X: 1, Y: -2}, {Z: 1}, {Z: -1, X: 1, Y: -1}]:
            for side, function in [(1, greatest), (-1, least)]:
                end = function(told, parts(form))
                self.assertEqual(self.as_told(told, parts(form), end, side), "ray")
                self.assertIs(bool(end), False)
        self.assertEqual(greatest(told, parts({X: 2, Y: -2})).value, (2, 1))
        self.assertIsNone(least(told, parts({X: 2, Y: -2})).value)

    def test_unknowns_that_no_row_has(self):
        for told in [System(()), HULL, system(({X: 1}, "=", 0))]:
            for function, side in [(greatest, 1), (least, -1)]:
                end = function(told, parts({Z: -1}))
                self.assertEqual(self.as_told(told, parts({Z: -1}), end, side), "ray")

    def test_empty_forms(self):
        for told in [System(()), HULL, system(({X: 1}, "=", 5), ({Y: 1}, "<=", 2))]:
            for function, side in [(greatest, 1), (least, -1)]:
                end = function(told, ())
                self.assertEqual((end.value, self.as_told(told, (), end, side)), ((0, 1), "value"))

    def test_forms_with_equal_rows(self):
        told = system(({X: 1, Y: 1, Z: 1}, "=", 1), ({X: -1}, "<=", 0), ({Y: -1}, "<=", 0), ({Z: -1}, "<=", 0))
        self.assertEqual(greatest(told, parts({X: 1, Y: 3, Z: 2})).value, (3, 1))
        self.assertEqual(least(told, parts({X: 1, Y: 3, Z: 2})).value, (1, 1))
        self.assertEqual(greatest(told, parts({X: 5, Y: 5, Z: 5})).value, (5, 1))

    def test_errors_in_their_order(self):
        shut, strict = ({}, "<=", -1), ({X: 1}, "<", 0)
        bad = [
            None, "", 5, [(X, (1, 1))], ((Y, (1, 1)), (X, (1, 1))), ((X, (0, 1)),), ((X, (2, 2)),), ((X, 1),), (X, (1, 1)),
            ((X, (1, 1)), (X, (1, 1))), ((("a", "and"), (1, 1)),), (([*X], (1, 1)),), ((X, (True, 1)),), {},
        ]
        for function in (greatest, least):
            for form in bad:
                with self.subTest(form=form), self.assertRaises(BadRow) as caught:
                    function(system(shut, strict), form)
                self.assertEqual(caught.exception.number, 0)
            with self.assertRaises(Strict) as caught:
                function(system(shut, ({X: 1}, "<=", 0), strict, strict), parts({X: 1}))
            self.assertEqual(caught.exception.number, 2)
            told = system(({X: 1}, "<=", 0), ({X: -1}, "<=", -1))
            with self.assertRaises(Shut) as caught:
                function(told, parts({Z: 1}))
            self.assertTrue(do_shut(told.rows, caught.exception.prices))


if __name__ == "__main__":
    unittest.main()
