"""Forms, rows, systems."""

import unittest
from fractions import Fraction
from random import Random

from shares import UNKNOWNS, X, Y, Z, pair, point, random_number, row, system
from swornlots.errors import BadRow, TooMany
from swornlots.rows import Form, System, against

GOOD = (((X, (1, 2)), (Y, (-3, 1))), "<=", (0, 1))
NOT_ROWS = [
    None, (), "row", 5, True, list(GOOD), GOOD[:2], (*GOOD, 1),
    ([(X, (1, 2))], "<=", (0, 1)), (((X, (1, 2)), (X, (1, 2))), "<=", (0, 1)), (((Y, (1, 2)), (X, (1, 2))), "<=", (0, 1)),
    ((X, (1, 2)), "<=", (0, 1)), (([X, (1, 2)],), "<=", (0, 1)), ((([*X], (1, 2)),), "<=", (0, 1)),
    (((X, [1, 2]),), "<=", (0, 1)), (((X, (0, 1)),), "<=", (0, 1)), (((X, (2, 4)),), "<=", (0, 1)), (((X, (1, -2)),), "<=", (0, 1)),
    (((X, (True, 1)),), "<=", (0, 1)), (((X, 1),), "<=", (0, 1)), (((X, (1, 2), 1),), "<=", (0, 1)), (((X,),), "<=", (0, 1)),
    (((("a",), (1, 2)),), "<=", (0, 1)), (((("a", "b", "c"), (1, 2)),), "<=", (0, 1)), (((("a", "and"), (1, 2)),), "<=", (0, 1)),
    (((("a", "B"), (1, 2)),), "<=", (0, 1)), (((("", "b"), (1, 2)),), "<=", (0, 1)), ((((1, "b"), (1, 2)),), "<=", (0, 1)),
    ((), ">=", (0, 1)), ((), ">", (0, 1)), ((), "==", (0, 1)), ((), "", (0, 1)), ((), None, (0, 1)), ((), ("<=",), (0, 1)),
    ((), ["<="], (0, 1)), ((), True, (0, 1)), ("", "<=", (0, 1)), (None, "<=", (0, 1)), ({}, "<=", (0, 1)),
    ((), "<=", 0), ((), "<=", (0, 2)), ((), "<=", (2, 4)), ((), "<=", [0, 1]), ((), "<=", None), ((), "<=", (1, True)),
    ((), "<=", (1, 0)), ((), "<=", (1,)), (((), (1, 2)), "<=", (0, 1)),
]


class Forms(unittest.TestCase):
    def test_parts(self):
        self.assertEqual(Form().parts, ())
        self.assertEqual(Form([(Y, (1, 2)), (X, (1, 3)), (Y, (1, 2))]).parts, ((X, (1, 3)), (Y, (1, 1))))
        self.assertEqual(Form(((Y, (1, 2)), (X, (0, 1)), (Y, (-1, 2)))).parts, ())
        pairs = [(Y, (1, 2)), (X, (1, 3))]
        form = Form(pairs)
        pairs.append((Z, (1, 1)))
        self.assertEqual(form.parts, ((X, (1, 3)), (Y, (1, 2))))

    def test_as_a_table(self):
        form = Form([(Y, (1, 2)), (X, (1, 3))])
        self.assertEqual((form[X], form[Y], form[Z]), ((1, 3), (1, 2), (0, 1)))
        self.assertEqual(len(form), 2)
        self.assertEqual(list(form), [X, Y])
        self.assertEqual(list(form), [X, Y])
        self.assertEqual((len(Form()), list(Form())), (0, []))

    def test_equal(self):
        form = Form([(Y, (1, 2)), (X, (1, 3))])
        self.assertTrue(form == Form([(X, (1, 3)), (Y, (1, 2))]))
        self.assertFalse(form == Form([(X, (1, 3))]))
        self.assertFalse(form == Form([(X, (1, 3)), (Y, (1, 3))]))
        for other in [form.parts, None, [], 0, (), "form"]:
            self.assertFalse(form == other)
            self.assertFalse(Form() == other)

    def test_signs(self):
        random = Random(2)
        for _ in range(200):
            first = {u: random_number(random) for u in UNKNOWNS if random.random() < 0.7}
            second = {u: random_number(random) for u in UNKNOWNS if random.random() < 0.7}
            factor = random.choice([random_number(random), Fraction(0), Fraction(-1), Fraction(-5, 3)])
            a, b = Form(point(first)), Form(point(second))
            before = (a.parts, b.parts)

            def parts(numbers):
                return tuple((u, pair(numbers[u])) for u in sorted(numbers) if numbers[u])

            every = {u: (first.get(u, 0), second.get(u, 0)) for u in UNKNOWNS}
            self.assertEqual((a + b).parts, parts({u: p + q for u, (p, q) in every.items()}))
            self.assertEqual((a - b).parts, parts({u: p - q for u, (p, q) in every.items()}))
            self.assertEqual((-a).parts, parts({u: -p for u, (p, q) in every.items()}))
            self.assertEqual((a * pair(factor)).parts, parts({u: p * factor for u, (p, q) in every.items()}))
            self.assertEqual((a.parts, b.parts), before)
            self.assertEqual(list(a), [u for u, _ in a.parts])

    def test_at(self):
        form = Form([(X, (1, 2)), (Y, (-2, 1))])
        self.assertEqual(form.at(point({X: 3, Y: 1, Z: 7})), (-1, 2))
        self.assertEqual(form.at(point({X: 3})), (3, 2))
        self.assertEqual(form.at(()), (0, 1))
        self.assertEqual(Form().at(point({X: 3})), (0, 1))


class Systems(unittest.TestCase):
    def test_rows(self):
        rows = [GOOD, ((), "<", (1, 1)), (((Z, (1, 1)),), "=", (-1, 2))]
        told = System(rows)
        self.assertEqual(told.rows, tuple(rows))
        self.assertEqual(told.unknowns, (X, Y, Z))
        self.assertEqual(len(told), 3)
        self.assertEqual(list(told), rows)
        rows.pop()
        self.assertEqual(len(told), 3)
        self.assertEqual((System([]).rows, System(()).unknowns, len(System(()))), ((), (), 0))
        self.assertEqual(system(({Z: 1}, "<=", 0), ({X: 1, Z: 2}, "<=", 0)).unknowns, (X, Z))

    def test_what_is_no_row(self):
        for thing in NOT_ROWS:
            for rows, number in [([thing], 0), ([GOOD, thing, None], 1), ((GOOD, GOOD, thing), 2)]:
                with self.subTest(thing=thing), self.assertRaises(BadRow) as caught:
                    System(rows)
                self.assertEqual(caught.exception.number, number)

    def test_too_many(self):
        self.assertEqual(len(System([GOOD] * 200)), 200)
        with self.assertRaises(TooMany) as caught:
            System([GOOD] * 201)
        self.assertEqual(caught.exception.kind, "row")
        with self.assertRaises(BadRow) as caught:
            System([GOOD] * 250 + [None])
        self.assertEqual(caught.exception.number, 250)

    def test_sum(self):
        first, second = system(({X: 1}, "<=", 0)), system(({Y: 1}, "<", 0), ({X: 1}, "<=", 0))
        both = first + second
        self.assertEqual(both.rows, first.rows + second.rows)
        self.assertEqual(both.unknowns, (X, Y))
        self.assertEqual((len(first), len(second)), (1, 2))
        self.assertEqual(len(System([GOOD] * 100) + System([GOOD] * 100)), 200)
        with self.assertRaises(TooMany) as caught:
            System([GOOD] * 100) + System([GOOD] * 101)
        self.assertEqual(caught.exception.kind, "row")

    def test_equal(self):
        told = system(({X: 1}, "<=", 0), ({Y: 1}, "<", 0))
        self.assertTrue(told == system(({X: 1}, "<=", 0), ({Y: 1}, "<", 0)))
        self.assertFalse(told == system(({Y: 1}, "<", 0), ({X: 1}, "<=", 0)))
        self.assertFalse(told == system(({X: 1}, "<=", 0)))
        for other in [told.rows, list(told.rows), None, 2, True]:
            self.assertFalse(told == other)

    def test_points(self):
        told = system(({X: 1, Y: 1}, "=", 1), ({X: -1}, "<=", 0), ({Y: -1}, "<", 0))
        for values, kept in [({X: 0, Y: 1}, True), ({X: Fraction(1, 2), Y: Fraction(1, 2)}, True), ({X: 1, Y: 0}, False),
                             ({X: -1, Y: 2}, False), ({X: 0, Y: 0}, False), ({X: 0}, False), ({X: 0, Y: 1, Z: 0}, False)]:
            self.assertIs(point(values) in told, kept, values)
        for thing in [
            None, (), "", 5, list(point({X: 0, Y: 1})), ((Y, (1, 1)), (X, (0, 1))), ([X, (0, 1)], [Y, (1, 1)]),
            ((X, [0, 1]), (Y, (1, 1))), ((X, 0), (Y, 1)), ((X, (0, 2)), (Y, (1, 1))), ((X, (False, 1)), (Y, (1, 1))),
            ((X, (0, 1)), (Y, (1, 1)), (Y, (1, 1))), (([*X], (0, 1)), (Y, (1, 1))), {X: (0, 1), Y: (1, 1)}, ((X, (0, 1), 1),),
            (X, Y), ((), ()), (None, None), told,
        ]:
            self.assertIs(thing in told, False, thing)
        self.assertIs(() in System(()), True)
        self.assertIs([] in System(()), False)
        self.assertIs(() in system(({}, "<=", -1)), False)
        self.assertIs(() in system(({}, "=", 0)), True)

    def test_against(self):
        told = row({X: 1, Y: -2}, "<=", 3)
        self.assertEqual(against(told), row({X: -1, Y: 2}, "<", -3))
        self.assertEqual(against(against(told)), told)
        self.assertEqual(against(row({X: 1}, "<", 0)), row({X: -1}, "<=", 0))
        self.assertEqual(against(((), "<=", (1, 2))), ((), "<", (-1, 2)))
        for thing in [*NOT_ROWS, row({X: 1}, "=", 0), ((), "=", (0, 1))]:
            with self.assertRaises(BadRow) as caught:
                against(thing)
            self.assertEqual(caught.exception.number, 0)

    def test_against_is_kept_where_the_row_is_not(self):
        for sign in ("<=", "<"):
            told = row({X: 2}, sign, 1)
            for number in [0, Fraction(1, 2), 1]:
                self.assertIsNot(point({X: number}) in System([told]), point({X: number}) in System([against(told)]))


if __name__ == "__main__":
    unittest.main()
