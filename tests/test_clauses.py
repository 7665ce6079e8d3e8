"""Clauses, answers, shut trees."""

import unittest
from random import Random

from marks import A, B, C, D, MARKS, clause, is_kept, marks_of, models, random_clause, random_rows
from swornlots.clauses import Clauses, decide, shut
from swornlots.errors import BadClause, TooMany

GOOD = ((A, True), (B, False))
NOT_CLAUSES = [
    None, "", "clause", 5, True, list(GOOD), {}, (A, True), ((A, True), (A, True)), ((A, True), (A, False)), ((B, True), (A, True)),
    ([A, True],), ((list(A), True),), ((A, 1),), ((A, 0),), ((A, None),), ((A, "yes"),), ((A, True, True),), ((A,),), ((("l1",), True),),
    ((("l1", "and"), True),), ((("l1", ""), True),), ((("l1", "nuts", "x"), True),), (((1, "nuts"), True),), (("l1", True),), (None,),
    ((),), ((True, A),),
]
TWELVE = [("l%02d" % k, "nuts") for k in range(12)]


class Sets(unittest.TestCase):
    def test_rows(self):
        rows = [GOOD, (), ((C, True),)]
        told = Clauses(rows)
        self.assertEqual(told.rows, tuple(rows))
        self.assertEqual(told.marks, (A, B, C))
        self.assertEqual((len(told), list(told), list(told)), (3, rows, rows))
        rows.clear()
        self.assertEqual(len(told), 3)
        self.assertEqual((Clauses(()).rows, Clauses([]).marks, len(Clauses([]))), ((), (), 0))

    def test_what_is_no_clause(self):
        for thing in NOT_CLAUSES:
            for rows, number in [([thing], 0), ((GOOD, thing, None), 1), ([(), GOOD, thing], 2)]:
                with self.subTest(thing=thing), self.assertRaises(BadClause) as caught:
                    Clauses(rows)
                self.assertEqual(caught.exception.number, number)

    def test_bounds(self):
        many = [((mark, True),) for mark in TWELVE]
        self.assertEqual(len(Clauses([GOOD] * 60)), 60)
        self.assertEqual(len(Clauses(many).marks), 12)
        for rows, kind in [([GOOD] * 61, "clause"), (many + [((A, True),)], "mark"), (many * 5 + [((A, True),)], "clause"),
                           ([tuple((mark, True) for mark in [*TWELVE, ("z", "nuts")])], "mark")]:
            with self.assertRaises(TooMany) as caught:
                Clauses(rows)
            self.assertEqual(caught.exception.kind, kind)
        with self.assertRaises(BadClause) as caught:
            Clauses(many * 6 + [None])
        self.assertEqual(caught.exception.number, 72)

    def test_sum(self):
        first, second = Clauses([GOOD]), Clauses([((C, True),), GOOD])
        both = first + second
        self.assertEqual((both.rows, both.marks), ((GOOD, ((C, True),), GOOD), (A, B, C)))
        self.assertEqual((len(first), len(second)), (1, 2))
        for other, kind in [(Clauses([GOOD] * 60), "clause"), (Clauses([((mark, True),) for mark in TWELVE]), "mark")]:
            with self.assertRaises(TooMany) as caught:
                first + other
            self.assertEqual(caught.exception.kind, kind)

    def test_equal(self):
        told = Clauses([GOOD, ((C, True),)])
        self.assertTrue(told == Clauses((GOOD, ((C, True),))))
        self.assertFalse(told == Clauses([((C, True),), GOOD]))
        self.assertFalse(told == Clauses([GOOD]))
        for other in [told.rows, list(told.rows), None, 2]:
            self.assertFalse(told == other)

    def test_answers(self):
        told = Clauses([GOOD, ((B, True), (C, True))])
        for answers, kept in [
            (((A, True), (B, True), (C, False)), True), (((A, False), (B, False), (C, True)), True),
            (((A, False), (B, True), (C, True)), False), (((A, True), (B, False), (C, False)), False),
            (((A, True), (B, True)), False), (((A, True), (B, True), (C, True), (D, True)), False),
            (((B, True), (A, True), (C, False)), False), ([(A, True), (B, True), (C, False)], False),
            (((A, 1), (B, 1), (C, 0)), False), (((A, True), (B, 1), (C, False)), False),
            (([A, True], (B, True), (C, False)), False), (((A, True), (B, True), (B, True), (C, False)), False),
            ({A: True, B: True, C: False}, False), ((), False), (None, False), (5, False), ("", False), ((A, B, C), False),
            (((A, True, 1), (B, True), (C, False)), False), (((list(A), True), (B, True), (C, False)), False), (told, False),
        ]:
            self.assertIs(answers in told, kept, answers)
        self.assertIs(() in Clauses([]), True)
        self.assertIs([] in Clauses([]), False)
        self.assertIs(() in Clauses([()]), False)


def is_tree(rows, tree, answers=()):
    """Whether the tree is shut, by [17]."""
    asked = dict(answers)
    if tree[0] == "broken":
        return len(tree) == 2 and all(asked.get(mark) is (not sense) for mark, sense in rows[tree[1]])
    word, mark, yes, no = tree
    if word != "ask" or mark in asked or mark not in marks_of(rows):
        return False
    return is_tree(rows, yes, [*asked.items(), (mark, True)]) and is_tree(rows, no, [*asked.items(), (mark, False)])


class Deciding(unittest.TestCase):
    def decided(self, rows):
        told = Clauses(rows)
        kind, thing = decide(told)
        if kind == "answers":
            self.assertTrue(thing in told)
            self.assertTrue(all(is_kept(row, dict(thing)) for row in rows))
            self.assertEqual(tuple(mark for mark, _ in thing), marks_of(rows))
        else:
            self.assertEqual(kind, "tree")
            self.assertTrue(is_tree(rows, thing))
            self.assertIs(shut(told, thing), True)
        return kind

    def test_random_sets(self):
        random = Random(31)
        kinds = []
        for _ in range(600):
            rows = random_rows(random)
            kinds.append(self.decided(rows))
            self.assertEqual(kinds[-1] == "answers", bool(models(rows, marks_of(rows))))
        self.assertGreater(min(kinds.count("answers"), kinds.count("tree")), 100)

    def test_small(self):
        self.assertEqual(decide(Clauses([])), ("answers", ()))
        self.assertEqual(decide(Clauses([()])), ("tree", ("broken", 0)))
        self.assertEqual(self.decided([GOOD, ()]), "tree")
        self.assertEqual(decide(Clauses([((A, True),)])), ("answers", ((A, True),)))
        self.assertEqual(self.decided([((A, True),), ((A, False),)]), "tree")

    def test_twelve_marks(self):
        random = Random(32)
        for _ in range(40):
            self.decided([random_clause(random, TWELVE, 3) for _ in range(60)])
        # Each mark is as the one before it, and the last one is not as the first one.
        ring = [clause((a, True), (b, False)) for a, b in zip(TWELVE, TWELVE[1:])]
        ring += [clause((a, False), (b, True)) for a, b in zip(TWELVE, TWELVE[1:])]
        ends = [clause((TWELVE[0], True), (TWELVE[11], True)), clause((TWELVE[0], False), (TWELVE[11], False))]
        self.assertEqual(self.decided(ring + ends), "tree")
        self.assertEqual(self.decided(ring), "answers")


class Trees(unittest.TestCase):
    ROWS = (((A, True), (B, True)), ((A, False),), ((B, False),), ((C, True),))
    TREE = ("ask", A, ("broken", 1), ("ask", B, ("broken", 2), ("broken", 0)))

    def test_trees(self):
        told = Clauses(self.ROWS)
        self.assertIs(shut(told, self.TREE), True)
        self.assertIs(shut(told, ("ask", B, ("broken", 2), ("ask", A, ("broken", 1), ("broken", 0)))), True)
        self.assertIs(shut(told, ("ask", C, self.TREE, ("broken", 3))), True)
        self.assertIs(shut(told, ("ask", C, self.TREE, self.TREE)), True)
        self.assertIs(shut(Clauses([()]), ("broken", 0)), True)

    def test_no_trees(self):
        told = Clauses(self.ROWS)
        good, mended = ("broken", 1), ("ask", B, ("broken", 2), ("broken", 0))
        for tree in [
            # A clause that is not broken, or whose marks have not all been asked; a number of none.
            ("broken", 0), ("broken", 1), ("ask", A, ("broken", 0), mended), ("ask", A, mended, good), ("ask", A, good, ("broken", 0)),
            ("ask", A, good, ("ask", B, ("broken", 0), ("broken", 2))), ("broken", 4), ("broken", -1), ("ask", A, ("broken", -3), mended),
            ("ask", A, ("broken", True), mended), ("ask", A, ("broken", "1"), mended), ("ask", A, ("broken", None), mended),
            ("ask", A, ("broken", 1.0), mended), ("ask", A, ("broken", (1,)), mended),
            # A mark that is asked twice, that no clause has, or that is none.
            ("ask", A, good, ("ask", A, good, mended)), ("ask", A, ("ask", A, good, good), mended), ("ask", D, self.TREE, self.TREE),
            ("ask", list(A), good, mended), ("ask", "A", good, mended), ("ask", None, good, mended), ("ask", ("l1",), good, mended),
            ("ask", {}, good, mended), ("ask", (A,), good, mended), ("ask", ([], []), good, mended),
            # Other forms.
            ["ask", A, good, mended], ("ask", A, list(good), mended), ("ask", A, good, list(mended)), ("ask", A, good), ("ask", A), ("ask",),
            ("ask", A, good, mended, good), ("broken",), ("ask", A, ("broken", 1, 1), mended), ("no", A, good, mended), ("broke", 1),
            ("ask", A, ("broke", 1), mended), ("ask", A, (None, 1), mended),
            (), None, True, 5, "", "ask", {}, [], (None,), ((),), ("ask", A, None, mended), ("ask", A, good, None), (True, A, good, mended),
            ("tree", self.TREE), (self.TREE,), told,
        ]:
            self.assertIs(shut(told, tree), False, tree)
        self.assertIs(shut(Clauses([]), ("broken", 0)), False)
        self.assertIs(shut(Clauses([]), ()), False)

    def test_broken_by_none_of_many_numbers(self):
        told = Clauses(self.ROWS)
        deep = self.TREE
        for _ in range(5000):
            deep = ("ask", A, deep, deep)
        self.assertIs(shut(told, deep), False)

    def test_marks(self):
        self.assertEqual(len(MARKS), 6)


if __name__ == "__main__":
    unittest.main()
