"""Fractions, shares and Ratio."""

import unittest
from fractions import Fraction
from random import Random

from swornlots.errors import BadFraction
from swornlots.ratios import Ratio, compare, is_fraction, is_share, total

LONG = 10 ** 40 - 1
GOOD = [(0, 1), (1, 1), (-1, 1), (1, 2), (-3, 2), (7, 3), (LONG, LONG - 1), (-LONG, 2)]
BAD = [
    (2, 4), (0, 2), (0, -1), (1, -2), (-1, -2), (1, 0), (0, 0), (-2, 4), (3, 3),
    (True, 1), (1, True), (False, 1), [1, 2], (1,), (1, 2, 3), (), None, "1/2", "ab", 1, 0, True, 1.0,
    (1.0, 2), (1, 2.0), ("1", 2), ((1, 2), 3), {1: 2}, Ratio(1, 2),
]


def pair(fraction):
    return (fraction.numerator, fraction.denominator)


class Fractions(unittest.TestCase):
    def test_is_fraction(self):
        for thing in GOOD:
            self.assertIs(is_fraction(thing), True, thing)
        for thing in BAD:
            self.assertIs(is_fraction(thing), False, thing)

    def test_is_share(self):
        for thing in [(0, 1), (1, 1), (1, 2), (LONG - 1, LONG)]:
            self.assertIs(is_share(thing), True, thing)
        for thing in [(-1, 2), (3, 2), (2, 1), (LONG, LONG - 1), *BAD]:
            self.assertIs(is_share(thing), False, thing)

    def test_compare_as_numbers_and_not_as_tuples(self):
        self.assertEqual(compare((1, 2), (1, 3)), 1)
        self.assertEqual(compare((1, 3), (1, 2)), -1)
        self.assertEqual(compare((2, 3), (3, 5)), 1)
        self.assertEqual(compare((-1, 2), (-1, 3)), -1)
        self.assertEqual(compare((-1, 2), (0, 1)), -1)
        self.assertEqual(compare((0, 1), (-7, 2)), 1)
        self.assertEqual(compare((5, 7), (5, 7)), 0)
        self.assertEqual(compare((LONG, LONG - 1), (LONG - 1, LONG - 2)), -1)

    def test_compare_refuses_the_first(self):
        for thing in BAD:
            with self.assertRaises(BadFraction) as caught:
                compare(thing, (9, 9))
            self.assertIs(caught.exception.value, thing)
            with self.assertRaises(BadFraction) as caught:
                compare((1, 2), thing)
            self.assertIs(caught.exception.value, thing)

    def test_total(self):
        self.assertEqual(total([]), (0, 1))
        self.assertEqual(total(()), (0, 1))
        self.assertEqual(total([(1, 2), (1, 3), (1, 6)]), (1, 1))
        self.assertEqual(total(((1, 2), (-1, 2))), (0, 1))
        self.assertEqual(total([(-1, 6), (-1, 3)]), (-1, 2))
        given = [(1, 4), (1, 4)]
        self.assertEqual(total(given), (1, 2))
        self.assertEqual(given, [(1, 4), (1, 4)])

    def test_total_refuses_the_first(self):
        for thing in BAD:
            with self.assertRaises(BadFraction) as caught:
                total([(1, 2), thing, (2, 2)])
            self.assertIs(caught.exception.value, thing)

    def test_sums_of_random_fractions(self):
        random = Random(3)
        for _ in range(200):
            some = [Fraction(random.randint(-9, 9), random.randint(1, 9)) for _ in range(random.randint(0, 6))]
            self.assertEqual(total([pair(f) for f in some]), pair(sum(some, Fraction(0))))


class Ratios(unittest.TestCase):
    def test_lowest_terms_and_below_from_one_on(self):
        for above, below, told in [
            (2, 4, (1, 2)), (0, 5, (0, 1)), (0, -5, (0, 1)), (3, -6, (-1, 2)), (-3, -6, (1, 2)),
            (7, 1, (7, 1)), (-6, 4, (-3, 2)), (LONG * 2, 2, (LONG, 1)),
        ]:
            ratio = Ratio(above, below)
            self.assertEqual((ratio.above, ratio.below), told)
            self.assertEqual(ratio.pair, told)
        self.assertEqual(Ratio(5).pair, (5, 1))
        self.assertEqual(Ratio(above=4, below=6).pair, (2, 3))

    def test_zero_below(self):
        for above in (1, 0, -1):
            with self.assertRaises(BadFraction) as caught:
                Ratio(above, 0)
            self.assertEqual(caught.exception.value, 0)

    def test_of(self):
        for thing in GOOD:
            self.assertEqual(Ratio.of(thing).pair, thing)
        for thing in BAD:
            with self.assertRaises(BadFraction) as caught:
                Ratio.of(thing)
            self.assertIs(caught.exception.value, thing)

    def test_over(self):
        self.assertEqual(Ratio(1, 2).over(Ratio(-3, 4)).pair, (-2, 3))
        self.assertEqual(Ratio(0).over(Ratio(5)).pair, (0, 1))
        with self.assertRaises(BadFraction) as caught:
            Ratio(1, 2).over(Ratio(0))
        self.assertEqual(caught.exception.value, 0)

    def test_less_is_true_or_false(self):
        self.assertIs(Ratio(1, 3).less(Ratio(1, 2)), True)
        self.assertIs(Ratio(1, 2).less(Ratio(1, 3)), False)
        self.assertIs(Ratio(1, 2).less(Ratio(2, 4)), False)
        self.assertIs(Ratio(-1, 2).less(Ratio(-1, 3)), True)

    def test_equal(self):
        self.assertTrue(Ratio(1, 2) == Ratio(2, 4))
        self.assertTrue(Ratio(1, 2) != Ratio(1, 3))
        for other in [(1, 2), None, "1/2", 1, True, [1, 2]]:
            self.assertFalse(Ratio(1, 2) == other)
            self.assertFalse(Ratio(1) == other)

    def test_other_kinds(self):
        for act in [lambda: Ratio(1) + 1, lambda: Ratio(1) - (1, 1), lambda: Ratio(1) * 2, lambda: 1 + Ratio(1)]:
            with self.assertRaises(TypeError):
                act()

    def test_signs(self):
        random = Random(1)
        for _ in range(300):
            first = Fraction(random.randint(-20, 20), random.randint(1, 12))
            second = Fraction(random.randint(-20, 20), random.randint(1, 12))
            a, b = Ratio.of(pair(first)), Ratio.of(pair(second))
            self.assertEqual((a + b).pair, pair(first + second))
            self.assertEqual((a - b).pair, pair(first - second))
            self.assertEqual((a * b).pair, pair(first * second))
            self.assertEqual((-a).pair, pair(-first))
            self.assertEqual(abs(a).pair, pair(abs(first)))
            self.assertEqual(a.less(b), first < second)
            self.assertEqual(a == b, first == second)
            self.assertEqual(compare(a.pair, b.pair), (first > second) - (first < second))
            if second:
                self.assertEqual(a.over(b).pair, pair(first / second))
            self.assertEqual((a.pair, b.pair), (pair(first), pair(second)))


if __name__ == "__main__":
    unittest.main()
