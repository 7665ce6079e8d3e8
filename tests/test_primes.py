"""Primes, sets that say the same, shadows of sets, the fewest."""

import unittest
from random import Random

from marks import A, B, C, D, MARKS, clause, is_kept, marks_of, models, random_clause, random_rows, tried_primes
from swornlots.clauses import Clauses, shut
from swornlots.errors import BadClause, NoAnswers
from swornlots.primes import fewest, implied, primes, say_same, shadow_clauses

TWELVE = [("l%02d" % k, "nuts") for k in range(12)]
NEVER = [((A, True),), ((A, False),)]


class Primes(unittest.TestCase):
    def test_random_sets(self):
        random = Random(41)
        for _ in range(400):
            rows = random_rows(random)
            told = primes(Clauses(rows))
            self.assertIsInstance(told, tuple)
            self.assertEqual(told, tried_primes(rows))

    def test_small(self):
        for rows, known in [
            ([], ()), ([()], ((),)), (NEVER, ((),)), ([((A, True),), ()], ((),)),
            ([((A, True),)], (((A, True),),)),
            ([((A, True), (B, True)), ((A, False), (B, True))], (((B, True),),)),
            ([((A, True), (B, True)), ((A, False), (C, True))],
             (((A, False), (C, True)), ((A, True), (B, True)), ((B, True), (C, True)))),
            ([((B, True), (C, False)), ((A, True),), ((A, True), (C, True))], (((A, True),), ((B, True), (C, False)))),
        ]:
            self.assertEqual(primes(Clauses(rows)), known)

    def test_order_by_length_and_then_as_tuples(self):
        rows = [((A, False), (B, True)), ((A, False), (B, False), (C, True)), ((D, True),)]
        told = primes(Clauses(rows))
        self.assertEqual(told, (((D, True),), ((A, False), (B, True)), ((A, False), (C, True))))

    def test_twelve_marks(self):
        """A ring of twelve: each mark leads to the next one, so each leads to each."""
        ring = [clause((TWELVE[k], False), (TWELVE[(k + 1) - 12 * (k == 11)], True)) for k in range(12)]
        told = primes(Clauses(ring))
        self.assertEqual(len(told), 132)
        self.assertEqual(set(told), {clause((a, False), (b, True)) for a in TWELVE for b in TWELVE if a != b})
        random = Random(42)
        for most in (3, 6, 12):
            rows = [random_clause(random, TWELVE, most) for _ in range(60)]
            told = primes(Clauses([row for row in rows if len(row) > 1]))
            self.assertEqual(list(told), sorted(told, key=lambda one: (len(one), one)))


class Saying(unittest.TestCase):
    def test_say_same(self):
        first = Clauses([((A, True), (B, True)), ((A, False), (B, True))])
        self.assertIs(say_same(first, Clauses([((B, True),)])), True)
        self.assertIs(say_same(first, Clauses([((B, True),), ((B, True), (C, True))])), True)
        self.assertIs(say_same(first, Clauses([((A, True),)])), False)
        self.assertIs(say_same(first, Clauses([])), False)
        self.assertIs(say_same(Clauses(NEVER), Clauses([((D, True),), ((D, False),)])), True)
        self.assertIs(say_same(Clauses(NEVER), Clauses([()])), True)
        self.assertIs(say_same(Clauses([]), Clauses(())), True)

    def test_random_sets(self):
        random = Random(43)
        same = 0
        for _ in range(300):
            first, second = random_rows(random), random_rows(random)
            if random.random() < 0.5:
                second = [*random.sample(first, len(first)), *tried_primes(first)][:60]
            marks = marks_of([*first, *second])
            known = models(first, marks) == models(second, marks)
            self.assertIs(say_same(Clauses(first), Clauses(second)), known)
            same += known
        self.assertTrue(50 < same < 250)

    def test_implied(self):
        random = Random(44)
        many = 0
        for _ in range(500):
            rows, told = random_rows(random), random_clause(random, MARKS)
            marks = marks_of([*rows, told])
            shown = implied(Clauses(rows), told)
            breaking = [answers for answers in models(rows, marks) if not is_kept(told, answers)]
            if shown is None:
                self.assertEqual(breaking, [])
                many += 1
            else:
                self.assertIsInstance(shown, tuple)
                self.assertEqual(tuple(mark for mark, _ in shown), marks)
                self.assertIn(dict(shown), breaking)
        self.assertTrue(100 < many < 400)

    def test_implied_by_small_sets(self):
        told = Clauses([((A, True),), ((A, False), (B, True))])
        self.assertIsNone(implied(told, ((B, True),)))
        self.assertIsNone(implied(told, ((B, True), (D, False))))
        self.assertEqual(implied(told, ()), ((A, True), (B, True)))
        self.assertEqual(implied(told, ((D, True),)), ((A, True), (B, True), (D, False)))
        self.assertIsNone(implied(Clauses(NEVER), ()))
        self.assertEqual(implied(Clauses([]), ()), ())

    def test_implied_of_what_is_no_clause(self):
        for thing in [None, [(A, True)], ((B, True), (A, True)), ((A, 1),), ((A, True), (A, False)), "", 5, (A, True)]:
            for rows in ([], NEVER):
                with self.assertRaises(BadClause) as caught:
                    implied(Clauses(rows), thing)
                self.assertEqual(caught.exception.number, 0)


class Shadows(unittest.TestCase):
    def test_random_sets(self):
        random = Random(45)
        for _ in range(400):
            rows = random_rows(random)
            marks = tuple(sorted(random.sample(MARKS, random.randint(0, 5))))
            told = shadow_clauses(Clauses(rows), marks)
            self.assertEqual(told, tuple(one for one in tried_primes(rows) if all(mark in marks for mark, _ in one)))
            every = models(rows, tuple(sorted({*marks_of(rows), *marks})))
            lifting = {tuple(answers[mark] for mark in marks) for answers in every}
            self.assertEqual({tuple(answers[mark] for mark in marks) for answers in models(told, marks)}, lifting)

    def test_small(self):
        told = Clauses([((A, True), (B, True)), ((B, False), (C, True))])
        self.assertEqual(shadow_clauses(told, (A, C)), (((A, True), (C, True)),))
        self.assertEqual(shadow_clauses(told, ()), ())
        self.assertEqual(shadow_clauses(told, (D,)), ())
        self.assertEqual(shadow_clauses(Clauses(NEVER), ()), ((),))
        self.assertEqual(shadow_clauses(Clauses(NEVER), (D,)), ((),))
        self.assertEqual(shadow_clauses(Clauses([]), (A,)), ())


class Fewest(unittest.TestCase):
    def test_random_sets(self):
        random = Random(46)
        never = 0
        for _ in range(500):
            rows = random_rows(random)
            told = Clauses(rows)
            marks = tuple(sorted(random.sample(MARKS, random.randint(0, 5))))
            every = tuple(sorted({*marks_of(rows), *marks}))
            known = models(rows, every)
            if not known:
                with self.assertRaises(NoAnswers) as caught:
                    fewest(told, marks)
                self.assertTrue(shut(told, caught.exception.tree))
                never += 1
                continue
            number, answers = fewest(told, marks)
            self.assertEqual(number, min(sum(one[mark] for mark in marks) for one in known))
            self.assertEqual(number, sum(answer for mark, answer in answers if mark in marks))
            self.assertEqual(tuple(mark for mark, _ in answers), every)
            self.assertIn(dict(answers), known)
        self.assertGreater(never, 50)

    def test_small(self):
        told = Clauses([((A, True), (B, True)), ((A, False),)])
        self.assertEqual(fewest(told, (A, B)), (1, ((A, False), (B, True))))
        self.assertEqual(fewest(told, (A, D)), (0, ((A, False), (B, True), (D, False))))
        self.assertEqual(fewest(told, ()), (0, ((A, False), (B, True))))
        self.assertEqual(fewest(Clauses([]), (A,)), (0, ((A, False),)))
        self.assertEqual(fewest(Clauses([((mark, True),) for mark in TWELVE]), tuple(TWELVE))[0], 12)
        with self.assertRaises(NoAnswers) as caught:
            fewest(Clauses([()]), (A,))
        self.assertEqual(caught.exception.tree, ("broken", 0))


if __name__ == "__main__":
    unittest.main()
