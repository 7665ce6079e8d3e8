"""Tables of ties, shadows of ties, lean ties, last and first days."""

import unittest
from itertools import product
from random import Random

from test_days import random_ties
from swornlots.days import Ties, placed
from swornlots.errors import NoDays, NoLot
from swornlots.tables import Table, first_days, last_days, lean_ties, shadow_ties


def has_days(rows):
    return placed(Ties(rows))[0] == "days"


def follows(rows, tie):
    """Whether a tie follows: no days keep the others and the tie against it."""
    first, second, n = tie
    return not has_days([*rows, (second, first, -n - 1)])


def random_good_ties(random, most=8):
    while True:
        rows = random_ties(random, most)
        if has_days(rows):
            return rows


class Tables(unittest.TestCase):
    def test_random(self):
        random = Random(21)
        for _ in range(300):
            rows = random_good_ties(random)
            ties = Ties(rows)
            table = Table(ties)
            told = []
            for first, second in product(["", *ties.lots], repeat=2):
                n = table[first, second]
                if first == second:
                    self.assertEqual(n, 0)
                elif n is None:
                    self.assertFalse(follows(rows, (first, second, 10 ** 6)))
                else:
                    self.assertTrue(follows(rows, (first, second, n)))
                    self.assertFalse(follows(rows, (first, second, n - 1)))
                    told.append((first, second, n))
            self.assertEqual(list(table), told)
            self.assertEqual(len(table), len(told))
            self.assertEqual(told, sorted(told))

    def test_small(self):
        table = Table(Ties([("b", "a", 3), ("a", "", -2), ("b", "a", 5)]))
        self.assertEqual(list(table), [("a", "", -2), ("b", "", 1), ("b", "a", 3)])
        self.assertIsNone(table["", "a"])
        self.assertEqual((table["b", ""], table["", ""], table["b", "b"]), (1, 0, 0))
        empty = Table(Ties(()))
        self.assertEqual((list(empty), len(empty), empty["", ""]), ([], 0, 0))

    def test_no_lot(self):
        table = Table(Ties([("b", "a", 3)]))
        for at, name in [(("c", "a"), "c"), (("a", "c"), "c"), (("d", "c"), "d"), (("", "x"), "x"), (("x", "x"), "x"), ((None, "c"), None),
                         ((["a"], "a"), ["a"]), ((True, ""), True)]:
            with self.assertRaises(NoLot) as caught:
                table[at]
            self.assertEqual(caught.exception.name, name)

    def test_no_days(self):
        ties = Ties([("c", "a", 0), ("a", "b", 1), ("b", "a", -2)])
        for told in (Table, lean_ties, last_days, first_days, lambda ties: shadow_ties(ties, ("a",))):
            with self.assertRaises(NoDays) as caught:
                told(ties)
            self.assertEqual(caught.exception.ring, (1, 2))

    def test_equal(self):
        one = Table(Ties([("a", "b", 1), ("b", "c", 1)]))
        self.assertTrue(one == Table(Ties([("b", "c", 1), ("a", "c", 2), ("a", "b", 1), ("a", "b", 4)])))
        self.assertFalse(one == Table(Ties([("a", "b", 1), ("b", "c", 2)])))
        self.assertFalse(one == Table(Ties([("a", "b", 1)])))
        # The ties say nothing of d, but have it.
        near = Ties([("a", "b", 1), ("b", "c", 1), ("a", "d", 0)])
        self.assertFalse(one == Table(near))
        self.assertFalse(one == tuple(one))

    def test_two_hundred_ties(self):
        names = ["", *["a%d" % k for k in range(200)]]
        table = Table(Ties([(a, b, -1) for a, b in zip(names, names[1:])]))
        self.assertEqual(len(table), 201 * 200 // 2)
        self.assertEqual(table["", "a199"], -200)
        apart = Ties([("a%d" % (2 * k), "a%d" % (2 * k + 1), k) for k in range(200)])
        self.assertEqual(len(Table(apart)), 200)


class Shadows(unittest.TestCase):
    def test_lots(self):
        ties = Ties([("a", "b", 1), ("b", "c", 1), ("c", "", 4)])
        self.assertEqual(shadow_ties(ties, ()), ())
        self.assertEqual(shadow_ties(ties, ("d", "e")), ())
        self.assertEqual(shadow_ties(ties, ("a",)), (("a", "", 6),))
        self.assertEqual(shadow_ties(ties, ("a", "c", "d")), (("a", "", 6), ("a", "c", 2), ("c", "", 4)))
        self.assertEqual(shadow_ties(ties, ("a", "b", "c")), tuple(Table(ties)))

    def test_random_days_lift(self):
        random = Random(4)
        for _ in range(150):
            rows = random_good_ties(random)
            ties = Ties(rows)
            lots = tuple(lot for lot in ties.lots if random.random() < 0.6)
            shadow = shadow_ties(ties, lots)
            for _ in range(6):
                days = {"": 0, **{lot: random.randint(-4, 4) for lot in lots}}
                kept = all(days[b] - days[a] <= n for a, b, n in shadow)
                fixed = [tie for lot in lots for tie in (("", lot, days[lot]), (lot, "", -days[lot]))]
                self.assertEqual(kept, has_days([*rows, *fixed]), (rows, lots, days))

    def test_lean(self):
        random = Random(5)
        shorter = 0
        for _ in range(400):
            rows = random_good_ties(random)
            left, k = list(rows), 0
            while k < len(left):
                if follows(left[:k] + left[k + 1:], left[k]):
                    del left[k]
                else:
                    k += 1
            self.assertEqual(lean_ties(Ties(rows)), tuple(left))
            shorter += len(left) < len(rows)
        self.assertGreater(shorter, 50)
        self.assertEqual(lean_ties(Ties([("a", "b", 1), ("a", "b", 1), ("b", "c", 0), ("a", "c", 1)])), (("a", "b", 1), ("b", "c", 0)))
        self.assertEqual(lean_ties(Ties([("a", "c", 1), ("a", "b", 1), ("b", "c", 0)])), (("a", "b", 1), ("b", "c", 0)))
        self.assertEqual(lean_ties(Ties(())), ())


class Ends(unittest.TestCase):
    def test_random(self):
        random = Random(6)
        seen = {True: 0, False: 0}
        for _ in range(500):
            rows = random_good_ties(random)
            ties = Ties(rows)
            for found, sign in ((last_days(ties), 1), (first_days(ties), -1)):
                ends = [("", lot, 10 ** 6) if sign > 0 else (lot, "", 10 ** 6) for lot in ties.lots]
                self.assertEqual(found is not None, all(follows(rows, end) for end in ends))
                seen[found is not None] += 1
                if found is None:
                    continue
                self.assertIn(found, ties)
                for lot, day in found:
                    beyond = (lot, "", -day - 1) if sign > 0 else ("", lot, day - 1)
                    self.assertFalse(has_days([*rows, beyond]))
        self.assertTrue(min(seen.values()) > 50)

    def test_small(self):
        self.assertEqual((last_days(Ties(())), first_days(Ties(()))), ((), ()))
        ties = Ties([("", "b", 7), ("b", "a", -2), ("a", "", 3)])
        self.assertEqual(last_days(ties), (("a", 5), ("b", 7)))
        self.assertEqual(first_days(ties), (("a", -3), ("b", -1)))
        self.assertIsNone(first_days(Ties([("", "b", 7), ("a", "", 3)])))
        self.assertIsNone(last_days(Ties([("", "b", 7), ("a", "b", 3)])))


if __name__ == "__main__":
    unittest.main()
