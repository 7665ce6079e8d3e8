"""Ties, days that keep them, and rings."""

import unittest
from random import Random

from proving import is_ring_again
from swornlots.days import Ties, is_ring, placed
from swornlots.errors import BadTie, TooMany


def random_ties(random, most=8):
    names = ["", "a", "b", "c", "d", "e"][:random.randint(2, 6)]
    return tuple((*random.sample(names, 2), random.randint(-3, 6)) for _ in range(random.randint(0, most)))


class TieRows(unittest.TestCase):
    def test_bad_ties(self):
        good = ("a", "b", 3)
        for bad in [
            ("a", "a", 1), ("", "", 1), ("A", "b", 1), ("a", "b b", 1), ("a", "or", 1), ("a", "abcdefghi", 1), ("a", None, 1),
            ("a", "b", True), ("a", "b", "1"), ("a", "b", (1, 1)), ["a", "b", 1], ("a", "b"), ("a", "b", 1, 1), (), None, 5, "ab3",
            (1, "b", 1), (["a"], "b", 1), ("a", "b", 1.0),
        ]:
            for place, rows in [(0, [bad]), (1, [good, bad]), (1, (good, bad, bad, good)), (200, [good] * 200 + [bad])]:
                with self.subTest(bad=bad, place=place):
                    with self.assertRaises(BadTie) as caught:
                        Ties(rows)
                    self.assertEqual(caught.exception.number, place)

    def test_too_many(self):
        rows = [("a", "b", k) for k in range(201)]
        self.assertEqual(len(Ties(rows[:200])), 200)
        for told in (rows, rows * 2):
            with self.assertRaises(TooMany) as caught:
                Ties(told)
            self.assertEqual(caught.exception.kind, "tie")
        with self.assertRaises(BadTie) as caught:
            Ties([*rows, ("a", "a", 1)])
        self.assertEqual(caught.exception.number, 201)
        with self.assertRaises(TooMany):
            Ties(rows[:150]) + Ties(rows[:51])
        self.assertEqual(len(Ties(rows[:150]) + Ties(rows[:50])), 200)

    def test_what_ties_tell(self):
        rows = [("b", "", 1), ("", "c9", -2), ("b", "a", 0), ("b", "", 1)]
        ties = Ties(rows)
        self.assertEqual(ties.rows, tuple(rows))
        self.assertEqual(ties.lots, ("a", "b", "c9"))
        self.assertEqual(list(ties), rows)
        self.assertEqual(len(ties), 4)
        self.assertTrue(ties == Ties(tuple(rows)))
        self.assertFalse(ties == Ties(rows[:3]) or ties == Ties(rows[::-1]) or ties == tuple(rows))
        self.assertEqual((Ties(rows[:1]) + Ties(rows[1:])).rows, tuple(rows))
        self.assertEqual((Ties(()).lots, len(Ties([])), list(Ties(()))), ((), 0, []))
        rows.clear()
        self.assertEqual(len(ties), 4)
        self.assertEqual(len(Ties([("a", "b", 10 ** 40 - 1), ("b", "a", 1 - 10 ** 40)])), 2)

    def test_days_in_ties(self):
        ties = Ties([("a", "b", 2), ("", "a", 5), ("b", "", -1)])
        for good in [(("a", 0), ("b", 2)), (("a", 5), ("b", 7)), (("a", 5), ("b", 1)), (("a", -1), ("b", 1))]:
            self.assertIn(good, ties)
        for bad in [
            (("a", 5), ("b", 0)), (("a", 6), ("b", 1)), (("a", 1), ("b", 4)),
            (("a", 5),), (("a", 5), ("b", 1), ("c", 0)), (("b", 1), ("a", 5)), (("a", 5), ("a", 5), ("b", 1)), (("a", 5), ("b", True)),
            [("a", 5), ("b", 1)], (["a", 5], ["b", 1]), (("a", 5), ("b", "1")), (("a", 5), ("b",)), (("", 0), ("a", 5), ("b", 1)),
            None, 7, "ab", {}, (), ((("a",), 5), ("b", 1)), (("a", 5), None),
        ]:
            with self.subTest(bad=bad):
                self.assertFalse(bad in ties)
        self.assertIn((), Ties(()))
        self.assertNotIn((("a", 0),), Ties(()))


class Placing(unittest.TestCase):
    def held(self, rows):
        """The word that is told, with days or ring held against [20]."""
        ties = Ties(rows)
        word, told = placed(ties)
        if word == "days":
            self.assertIn(told, ties)
        else:
            self.assertEqual(word, "ring")
            self.assertTrue(is_ring_again(rows, told) and isinstance(told, tuple), (rows, told))
            self.assertTrue(is_ring(ties, told))
        return word

    def test_small(self):
        for rows, word in [
            ((), "days"), ((("a", "b", -5),), "days"), ((("", "b", -5), ("b", "", 5)), "days"), ((("", "b", -5), ("b", "", 4)), "ring"),
            ((("b", "", -5), ("", "b", 5)), "days"), ((("a", "b", 0), ("b", "a", 0)), "days"), ((("a", "b", 0), ("b", "a", -1)), "ring"),
            ((("a", "b", 3), ("a", "b", 1), ("b", "a", -2)), "ring"), ((("a", "b", 3), ("a", "b", 3), ("b", "a", -3)), "days"),
            ((("a", "b", 10 ** 39), ("b", "a", -10 ** 39)), "days"), ((("a", "b", 10 ** 39), ("b", "a", -10 ** 39 - 1)), "ring"),
            ((("a", "b", -1), ("c", "d", -1), ("d", "c", 0)), "ring"),
        ]:
            with self.subTest(rows=rows):
                self.assertEqual(self.held(rows), word)

    def test_long_rings(self):
        names = ["", *["a%d" % k for k in range(199)]]
        for last, word in [(-199, "days"), (-200, "ring")]:
            rows = [(a, b, 1) for a, b in zip(names, names[1:])] + [(names[-1], "", last)]
            self.assertEqual(self.held(tuple(rows)), word)
            self.assertEqual(self.held(tuple(rows[::-1])), word)
            self.assertEqual(self.held(tuple(rows[100:] + rows[:100])), word)

    def test_random(self):
        random = Random(20)
        words = []
        for _ in range(2000):
            words.append(self.held(random_ties(random)))
        self.assertTrue(300 < words.count("ring") < 1700)

    def test_many_random_ties(self):
        random = Random(3)
        for _ in range(20):
            names = ["", *["a%d" % k for k in range(random.choice([5, 40]))]]
            days = {name: random.randint(-50, 50) for name in names}
            pairs = [random.sample(names, 2) for _ in range(200)]
            rows = [(a, b, days[b] - days[a] + random.choice([0, 0, 1, 5])) for a, b in pairs]
            self.assertEqual(self.held(tuple(rows)), "days")
            rows[random.randrange(200)] = ("a0", "a1", days["a1"] - days["a0"] - 1)
            self.held((*rows[:199], ("a1", "a0", days["a0"] - days["a1"])))


class Rings(unittest.TestCase):
    TIES = Ties([("a", "b", -1), ("b", "a", 0), ("b", "c", 0), ("c", "b", 1), ("a", "b", 5), ("", "a", -9)])

    def test_rings(self):
        self.assertIs(is_ring(self.TIES, (0, 1)), True)
        ties = Ties([("a", "b", -3), ("b", "c", 0), ("c", "b", 1), ("b", "a", 1)])
        # A ring can come to a name again.
        self.assertTrue(is_ring(ties, (0, 1, 2, 3)))
        self.assertTrue(is_ring(ties, (0, 3)))

    def test_no_rings(self):
        for ring in [
            (1, 0), (0,), (), (0, 0), (0, 1, 0, 1), (0, 1, 1), (0, 6), (0, -5), (-6, 1), (0, True), (False, 1), (0, "1"), [0, 1], None, 0,
            "01", (2, 3), (0, 2), (0, 2, 3), (1, 4), (0, 4), (5, 0, 1), (0, None), ((0,), 1), (0, 1.0), {}, (0, [1]),
        ]:
            with self.subTest(ring=ring):
                self.assertIs(is_ring(self.TIES, ring), False)
        self.assertFalse(is_ring(Ties(()), ()))
        self.assertFalse(is_ring(Ties([("a", "b", 0), ("b", "a", 0)]), (0, 1)))
        self.assertTrue(is_ring(Ties([("a", "b", 0), ("b", "a", -1)]), (0, 1)))


if __name__ == "__main__":
    unittest.main()
