"""Clauses as pairs of bits: what is open of them behind some answers, held against all answers."""

import unittest
from random import Random

from swornlots.masks import can_keep, opened_rows

MARKS = 5
ALL = (1 << MARKS) - 1


def is_kept(row, yes):
    """Whether a clause is kept where just the marks of these bits are answered True."""
    return row[0] & yes != 0 or row[1] & ~yes != 0


def kept_by(rows, yes, no):
    """All answers, by their bits with True, that keep the clauses and have those told."""
    return [one for one in range(ALL + 1) if one & yes == yes and one & no == 0 and all(is_kept(row, one) for row in rows)]


def random_rows(random):
    rows = []
    for _ in range(random.randint(0, 7)):
        bits = [1 << k for k in random.sample(range(MARKS), random.choice((1, 2, 2, 3)))]
        above = sum(bit for bit in bits if random.random() < 0.5)
        rows.append((above, sum(bits) - above))
    return rows


def random_answers(random):
    yes = random.randint(0, ALL) & random.randint(0, ALL)
    return yes, random.randint(0, ALL) & random.randint(0, ALL) & ~yes


class Opened(unittest.TestCase):
    def test_nothing_is_forced(self):
        self.assertEqual(opened_rows([], 0, 0), ([], 0, 0))
        self.assertEqual(opened_rows([], 1, 2), ([], 1, 2))
        self.assertEqual(opened_rows([(3, 0), (4, 1)], 0, 0), ([(3, 0), (4, 1)], 0, 0))

    def test_what_is_kept_is_left_out(self):
        self.assertEqual(opened_rows([(3, 4), (8, 6)], 1, 0), ([(8, 6)], 1, 0))
        self.assertEqual(opened_rows([(3, 4), (8, 6)], 0, 4), ([], 0, 4))

    def test_what_is_answered_is_taken_out(self):
        self.assertEqual(opened_rows([(7, 0), (8, 6)], 4, 1), ([(8, 2)], 4, 1))

    def test_one_mark_left_is_forced(self):
        self.assertEqual(opened_rows([(1, 0)], 0, 0), ([], 1, 0))
        self.assertEqual(opened_rows([(0, 1)], 0, 0), ([], 0, 1))

    def test_what_is_forced_goes_on_both_ways(self):
        """Each next mark is forced by the answer ahead of it, also where its clause stands further ahead."""
        chain = [(2, 1), (4, 2), (8, 4), (16, 8)]
        self.assertEqual(opened_rows([(1, 0), *chain], 0, 0), ([], 31, 0))
        self.assertEqual(opened_rows([*reversed(chain), (1, 0)], 0, 0), ([], 31, 0))
        self.assertEqual(opened_rows([(24, 0), *reversed(chain[:2]), (1, 0)], 0, 0), ([(24, 0)], 7, 0))

    def test_broken_clauses(self):
        self.assertIsNone(opened_rows([(0, 0)], 0, 0))
        self.assertIsNone(opened_rows([(3, 0), (1, 2)], 2, 1))
        self.assertIsNone(opened_rows([(1, 0), (0, 1)], 0, 0))
        self.assertIsNone(opened_rows([(4, 2), (0, 6), (2, 1), (1, 0)], 0, 0))

    def test_arguments_stay(self):
        rows = [(16, 8), (2, 1), (1, 0)]
        self.assertEqual(opened_rows(rows, 4, 0), ([(16, 8)], 7, 0))
        self.assertEqual(rows, [(16, 8), (2, 1), (1, 0)])

    def test_the_same_answers_keep_what_is_open(self):
        random = Random(5)
        for turn in range(3000):
            rows = random_rows(random)
            yes, no = random_answers(random)
            known = kept_by(rows, yes, no)
            told = opened_rows(list(rows), yes, no)
            with self.subTest(turn=turn, rows=rows, yes=yes, no=no):
                self.assertEqual(can_keep(list(rows), yes, no), bool(known))
                if told is None:
                    self.assertEqual(known, [])
                    continue
                left, above, below = told
                self.assertEqual((above & yes, below & no, above & below), (yes, no, 0))
                self.assertEqual(kept_by(left, above, below), known)
                for row in left:
                    bits = row[0] | row[1]
                    self.assertEqual(bits & (above | below), 0)
                    self.assertGreater(bits & (bits - 1), 0)


if __name__ == "__main__":
    unittest.main()
