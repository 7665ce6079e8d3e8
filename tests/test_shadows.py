"""Rows that follow, lean systems, shadows, lifts."""

import unittest
from fractions import Fraction
from random import Random

from shares import UNKNOWNS, X, Y, Z, do_shut, keeps_all, pair, point, random_number, random_row, random_system, row, system
from swornlots.errors import BadRow, Strict
from swornlots.points import solve
from swornlots.rows import System, against
from swornlots.shadows import follows, lean, lift, shadow


def has_point(rows):
    """Whether the rows have a point, told by a point or by prices, either of them held against [11] and [12]."""
    told = System(rows)
    kind, thing = solve(told)
    if kind == "point":
        assert keeps_all(told.rows, thing)
        return True
    assert do_shut(told.rows, thing)
    return False


def halves(one):
    parts, sign, bound = one
    if sign != "=":
        return [one]
    return [(parts, "<=", bound), (tuple((u, (-a, b)) for u, (a, b) in parts), "<=", (-bound[0], bound[1]))]


def does_follow(rows, one):
    return not any(has_point([*rows, against(half)]) for half in halves(one))


def left_over(rows):
    """The lean rows, by going through them as [14] says."""
    rows, k = list(rows), 0
    while k < len(rows):
        if does_follow(rows[:k] + rows[k + 1:], rows[k]):
            del rows[k]
        else:
            k += 1
    return tuple(rows)


class Following(unittest.TestCase):
    def followed(self, told, one):
        shown = follows(told, one)
        if shown is None:
            self.assertTrue(does_follow(told.rows, one))
            return True
        self.assertTrue(keeps_all(told.rows, shown))
        self.assertFalse(keeps_all([one], shown))
        names = {*told.unknowns, *[unknown for unknown, _ in one[0]]}
        self.assertEqual([unknown for unknown, _ in shown], sorted(names))
        return False

    def test_random_systems(self):
        random = Random(21)
        many = 0
        for _ in range(800):
            told = random_system(random)
            one = random_row(random, UNKNOWNS[:3], ("<=", "<", "="))
            if told.rows and random.random() < 0.5:
                parts, sign, bound = random.choice(told.rows)
                one = (parts, random.choice(["<=", "<", "="]), random.choice([bound, pair(Fraction(*bound) + 1)]))
            many += self.followed(told, one)
        self.assertTrue(100 < many < 700)

    def test_small(self):
        told = system(({X: 1}, "<=", 1), ({Y: 1}, "<", 2), ({Z: 1}, "=", 3))
        for one, known in [
            (({X: 1}, "<=", 1), True), (({X: 1}, "<", 1), False), (({X: 1}, "<", 2), True), (({X: 1}, "<=", Fraction(1, 2)), False),
            (({X: 1, Y: 1}, "<", 3), True), (({X: 1, Y: 1}, "<=", 3), True), (({X: 1, Y: 1}, "<", Fraction(29, 10)), False),
            (({Z: 2}, "=", 6), True), (({Z: 2}, "=", 5), False), (({Z: 1}, "=", 4), False), (({X: 1}, "=", 1), False),
            (({Z: -1}, "<=", -3), True), (({}, "<=", 0), True), (({}, "<", 0), False), (({}, "=", 0), True), (({}, "=", 1), False),
            (({("d", "east"): 1}, "<=", 5), False), (({("d", "east"): 1}, "=", 5), False),
        ]:
            with self.subTest(one=one):
                self.assertIs(self.followed(told, row(*one)), known)

    def test_all_follows_from_a_system_without_a_point(self):
        for told in [system(({X: 1}, "<", 0), ({X: -1}, "<", 0)), system(({}, "<=", -1)), system(({X: 1}, "=", 0), ({X: 1}, "=", 1))]:
            for one in [({X: 1}, "=", 7), ({}, "<", 0), ({Z: 1}, "<=", 0)]:
                self.assertIsNone(follows(told, row(*one)))

    def test_from_no_rows(self):
        self.assertIsNone(follows(System(()), row({}, "<=", 0)))
        self.assertEqual(follows(System(()), row({}, "<=", -1)), ())

    def test_two_hundred_rows(self):
        told = system(*[({X: 1}, "<=", k) for k in range(200)])
        self.assertIsNone(follows(told, row({X: 1}, "<=", 0)))
        self.assertIsNotNone(follows(told, row({X: 1}, "<", 0)))

    def test_no_row(self):
        for thing in [None, (), [(), "<=", (0, 1)], ((), ">", (0, 1)), ((), "<=", (0, 2)), (((X, (0, 1)),), "<=", (0, 1)), 5]:
            with self.assertRaises(BadRow) as caught:
                follows(System(()), thing)
            self.assertEqual(caught.exception.number, 0)


class Lean(unittest.TestCase):
    def test_random_systems(self):
        random = Random(22)
        fewer = 0
        for _ in range(500):
            told = random_system(random)
            before = told.rows
            rows = lean(told).rows
            self.assertEqual(rows, left_over(told.rows))
            self.assertEqual(told.rows, before)
            fewer += len(rows) < len(told.rows)
        self.assertGreater(fewer, 150)

    def test_small(self):
        for rows, left in [
            ([], []),
            ([({X: 1}, "<=", 1), ({X: 1}, "<=", 1)], [1]),
            ([({X: 1}, "<=", 1), ({X: 2}, "<=", 2), ({X: 1}, "<=", 2)], [1]),
            ([({X: 1}, "<=", 1), ({X: 1}, "<", 1)], [1]), ([({X: 1}, "<", 1), ({X: 1}, "<=", 1)], [0]),
            ([({X: 1}, "<=", 1), ({X: -1}, "<=", -1), ({X: 1}, "=", 1)], [2]),
            ([({X: 1}, "=", 1), ({X: 1}, "<=", 1), ({X: -1}, "<=", -1)], [1, 2]),
            ([({X: 1}, "=", 1), ({X: 3}, "=", 3), ({X: 1}, "<=", 5)], [1]),
            ([({X: 1}, "=", 1), ({Y: 1}, "=", 1), ({X: 1, Y: 1}, "=", 2)], [1, 2]),
            ([({X: 1, Y: 1}, "<=", 2), ({X: 1}, "<=", 1), ({Y: 1}, "<=", 1)], [1, 2]),
            ([({X: 1}, "<=", 1), ({Y: 1}, "<=", 1), ({X: 1, Y: 1}, "<=", 2)], [0, 1]),
            ([({}, "<=", 0), ({}, "<", 1), ({}, "=", 0), ({X: 1}, "<", 0)], [3]),
            ([({X: 1}, "<=", 0), ({}, "<=", -1), ({Y: 1}, "<=", 0)], [1]),
            ([({X: 1}, "<=", 0), ({X: -1}, "<=", -1), ({}, "<", 0)], [2]),
            ([({}, "<", 0), ({X: 1}, "<=", 0), ({X: -1}, "<=", -1)], [1, 2]),
            ([({X: 1}, "=", 0), ({X: 1}, "=", 1), ({X: 1}, "=", 2)], [1, 2]),
            ([({X: 1}, "<", 0), ({X: -1}, "<", 0), ({X: 1}, "=", 0)], [1, 2]),
            ([({X: 1}, "<", 1), ({X: 3}, "<", 3)], [1]), ([({X: 3}, "<", 3), ({X: 1}, "<", 1)], [1]),
            ([({X: 1}, "<=", 1), ({X: 3}, "<", 3)], [1]), ([({X: 1}, "<", 1), ({X: 3}, "<=", 3)], [0]),
            ([({X: 2, Y: 2}, "<", 4), ({X: 1}, "<", 1), ({Y: 1}, "<=", 1)], [1, 2]),
            ([({X: 1, Y: 1}, "<", 2), ({X: 3}, "<=", 3), ({Y: 3}, "<=", 3)], [0, 1, 2]),
        ]:
            with self.subTest(rows=rows):
                told = system(*rows)
                self.assertEqual(lean(told), System([told.rows[k] for k in left]))

    def test_a_cube_with_many_walls(self):
        walls = []
        for unknown in UNKNOWNS:
            walls += [({unknown: 1}, "<=", 1), ({unknown: -1}, "<=", 0)]
        more = [({a: 1, b: 1}, "<=", 2) for a in UNKNOWNS for b in UNKNOWNS if a < b]
        more += [({a: 1, b: -1}, "<", Fraction(3, 2)) for a in UNKNOWNS for b in UNKNOWNS if a != b]
        self.assertEqual(lean(system(*more, *walls)), system(*walls))


class Shadows(unittest.TestCase):
    def told_of(self, told, unknowns, random):
        """Holds the shadow on the unknowns against [15]."""
        thrown = shadow(told, unknowns)
        self.assertIsInstance(thrown, System)
        self.assertTrue(set(thrown.unknowns) <= set(unknowns))
        self.assertTrue(all(sign != "<" for _, sign, _ in thrown.rows))
        for k, one in enumerate(thrown.rows):
            self.assertFalse(does_follow(thrown.rows[:k] + thrown.rows[k + 1:], one))
        points = [point({u: random_number(random) for u in unknowns}) for _ in range(3)]
        kind, thing = solve(thrown)
        if kind == "point":
            values = {u: Fraction(*f) for u, f in thing}
            points.append(point({u: values.get(u, Fraction(0)) for u in unknowns}))
        else:
            self.assertFalse(has_point(told.rows))
        kind, thing = solve(told)
        if kind == "point":
            points.append(tuple(part for part in thing if part[0] in unknowns))
            points[-1] = point({**{u: Fraction(0) for u in unknowns}, **{u: Fraction(*f) for u, f in points[-1]}})
        for some in points:
            fixed = [((((u, (1, 1)),)), "=", f) for u, f in some]
            lifts = has_point([*told.rows, *fixed])
            self.assertEqual(keeps_all(thrown.rows, some), lifts)
            self.lifted(told, some, lifts)
        return thrown

    def lifted(self, told, some, lifts):
        found = lift(told, some)
        if not lifts:
            self.assertIsNone(found)
            return
        self.assertEqual([u for u, _ in found], sorted({*told.unknowns, *[u for u, _ in some]}))
        self.assertTrue(keeps_all(told.rows, found))
        self.assertTrue(set(some) <= set(found))

    def test_random_systems(self):
        random = Random(23)
        for _ in range(500):
            told = random_system(random, signs=("<=", "<=", "<=", "="))
            unknowns = tuple(u for u in UNKNOWNS if random.random() < 0.5)
            self.told_of(told, unknowns, random)

    def test_small(self):
        random = Random(24)
        told = system(({X: 1, Y: 1}, "<=", 4), ({X: -1}, "<=", 0), ({Y: -1}, "<=", 0), ({X: 1, Z: -1}, "=", 1))
        for unknowns in [(), (X,), (Y,), (Z,), (X, Y), (X, Y, Z), (("d", "east"),), (X, ("d", "east"))]:
            self.told_of(told, unknowns, random)
        self.assertEqual(shadow(told, ()).rows, ())
        self.assertEqual(shadow(told, (("d", "east"),)).rows, ())
        self.assertEqual(len(shadow(told, (X,))), 2)
        self.assertEqual(shadow(told, (X,)).unknowns, (X,))
        self.assertEqual(len(shadow(told, (X, Y, Z))), 4)

    def test_of_one_point(self):
        told = system(({X: 1, Y: 1}, "=", 4), ({X: 1, Y: -1}, "=", 0))
        self.assertTrue(point({X: 2}) in shadow(told, (X,)))
        self.assertFalse(point({X: 1}) in shadow(told, (X,)))

    def test_without_a_point(self):
        random = Random(25)
        for told in [system(({}, "<=", -1)), system(({X: 1}, "=", 0), ({X: 1}, "=", 1)),
                     system(({X: 1, Y: 1}, "<=", 0), ({X: -1}, "<=", -1), ({Y: -1}, "<=", -1))]:
            for unknowns in [(), (X,), (X, Y), (Z,)]:
                thrown = self.told_of(told, unknowns, random)
                self.assertFalse(has_point(thrown.rows))

    def test_strict(self):
        told = system(({}, "<=", -1), ({X: 1}, "<=", 0), ({X: 1}, "<", 0), ({X: 1}, "<", 0))
        with self.assertRaises(Strict) as caught:
            shadow(told, (X,))
        self.assertEqual(caught.exception.number, 2)

    def test_shares_of_lots(self):
        """Shares that come to 1 for each lot, and rows about mixes; two of the lots are dropped."""
        random = Random(26)
        lots, farms = ("a", "b", "c", "d"), ("east", "north", "west")
        rows = []
        for lot in lots:
            rows += [({(lot, farm): -1}, "<=", 0) for farm in farms]
            rows.append(({(lot, farm): 1 for farm in farms}, "=", 1))
        rows.append(({("a", "east"): Fraction(-1, 2), ("b", "east"): Fraction(-1, 2)}, "<=", Fraction(-3, 4)))
        rows.append(({("b", "east"): Fraction(1, 3), ("c", "east"): Fraction(2, 3)}, "<=", Fraction(1, 2)))
        rows.append(({("c", "west"): -1, ("d", "west"): 1}, "<=", Fraction(-1, 5)))
        told = system(*rows)
        kept = tuple(u for u in told.unknowns if u[0] in ("a", "d"))
        thrown = self.told_of(told, kept, random)
        self.assertFalse(keeps_all(thrown.rows, point({u: Fraction(1 if u in (("a", "north"), ("d", "east")) else 0) for u in kept})))


class Lifts(unittest.TestCase):
    def test_with_strict_rows(self):
        told = system(({X: 1, Y: 1}, "<", 1), ({Y: -1}, "<", 0), ({Z: 1, X: -1}, "=", 0))
        for values, lifts in [({X: 0}, True), ({X: 1}, False), ({X: Fraction(9, 10)}, True), ({Z: 1}, False), ({X: 0, Z: 1}, False),
                              ({X: 0, Z: 0}, True), ({X: 0, Y: 0}, False), ({}, True), ({("d", "east"): 7, X: 0}, True)]:
            found = lift(told, point(values))
            self.assertIs(found is not None, lifts, values)
            if lifts:
                self.assertTrue(keeps_all(told.rows, found))
                self.assertEqual([u for u, _ in found], sorted({X, Y, Z, *values}))
                self.assertTrue(set(point(values)) <= set(found))

    def test_without_rows(self):
        self.assertEqual(lift(System(()), point({X: 1})), point({X: 1}))
        self.assertEqual(lift(System(()), ()), ())
        self.assertIsNone(lift(system(({}, "<", 0)), ()))


if __name__ == "__main__":
    unittest.main()
