"""Papers: their formulas, and those in force."""

import unittest
from random import Random

from offices import office, put_some, random_paper, sum_of_shares
from proving import FALSE, NUTS, SOY, TRUE, is_true, plant_of, share, shuts_again
from swornlots.cases import closed, find
from swornlots.errors import BadFormula, BadPaper, NoLot, NoPaper, NoThing, Quarrel, TooMany
from swornlots.papers import Papers, formula_of
from swornlots.stocks import Stock
from swornlots.worlds import World

BOTH = ("east", "west")
PARTS = ((("l1", "east"), (1, 2)), (("l3", "west"), (-2, 1)))
CLAUSE = ((("l1", "nuts"), True), (("l3", "soy"), False))
MIXED = ((("l1", "east"), (1, 4)), (("l1", "west"), (1, 4)), (("l2", "east"), (3, 4)), (("l2", "west"), (3, 4)))

FORMULAS = [
    (("least", "l1", ("east",), (1, 2)), ("share", sum_of_shares("l1", ["east"]), (1, 2))),
    (("least", "l2", BOTH, (0, 1)), ("share", sum_of_shares("l2", BOTH), (0, 1))),
    (("most", "l1", BOTH, (1, 1)), ("share", sum_of_shares("l1", BOTH, -1), (-1, 1))),
    (("most", "l1", ("west",), (0, 1)), ("share", sum_of_shares("l1", ["west"], -1), (0, 1))),
    (("bears", "l3", "soy"), ("bears", "l3", "soy")),
    (("lacks", "l3", "nuts"), ("not", ("bears", "l3", "nuts"))),
    (("from", "l1", 7), ("days", "l1", "", -7)),
    (("from", "l1", -7), ("days", "l1", "", 7)),
    (("until", "l2", 10 ** 39), ("days", "", "l2", 10 ** 39)),
    (("apart", "l2", "l1", -3), ("days", "l2", "l1", -3)),
    (("apart", "", "l1", 0), ("days", "", "l1", 0)),
    (("apart", "l1", "", 4), ("days", "l1", "", 4)),
    (("clear", "s1", "nuts"), ("and", (("not", ("bears", "l1", "nuts")), ("not", ("bears", "l2", "nuts"))))),
    (("found", "s1", "soy"), ("or", (("bears", "l1", "soy"), ("bears", "l2", "soy")))),
    (("measured", "s1", ("west",), (1, 5), (1, 2)), ("and", (
        ("share", ((("l1", "west"), (1, 4)), (("l2", "west"), (3, 4))), (1, 5)),
        ("share", ((("l1", "west"), (-1, 4)), (("l2", "west"), (-3, 4))), (-1, 2))))),
    (("measured", "s1", BOTH, (0, 1), (0, 1)), ("and", (("share", MIXED, (0, 1)), ("share", tuple((u, (-a, b)) for u, (a, b) in MIXED), (0, 1))))),
    (("row", PARTS, (-7, 3)), ("share", PARTS, (-7, 3))),
    (("clause", CLAUSE), ("or", (NUTS, ("not", ("bears", "l3", "soy"))))),
    (("clause", ()), FALSE),
    (("says", ("or", (share({("l1", "east"): 1}, 1), ("not", ("and", (NUTS, ("days", "l1", "", 2))))))), None),
    (("says", TRUE), TRUE),
]


def nested(levels):
    return ("and", (nested(levels - 1),)) if levels > 1 else NUTS


class Formulas(unittest.TestCase):
    def setUp(self):
        self.stock = office()

    def test_each(self):
        for paper, formula in FORMULAS:
            with self.subTest(paper=paper):
                self.assertEqual(formula_of(self.stock, paper), paper[1] if formula is None else formula)

    def test_bad_papers(self):
        atom = share({("l1", "east"): 1}, 1)
        half = (1, 2)
        for bad in [
            ("least", "l1", ("east",), (3, 2)), ("least", "l1", ("east",), (-1, 2)), ("least", "l1", ("east",), (2, 4)), ("most", "l1", ("east",), 1),
            ("least", "l1", (), half), ("least", "l1", ("west", "east"), half), ("least", "l1", ("east", "east"), half), ("least", "l1", ["east"], half),
            ("least", "l1", "east", half), ("most", "l1", ("south",), half), ("most", "l1", ("east", 3), half), ("least", "", ("east",), half),
            ("least", "or", ("east",), half), ("least", 1, ("east",), half), ("least", "l1", ("east",)), ("least", "l1", ("east",), half, half),
            ("bears", "l1", "egg"), ("lacks", "l1", ""), ("bears", "l1"), ("bears", "l1", "nuts", "soy"), ("lacks", ["l1"], "nuts"), ("lacks", "l1", ["nuts"]),
            ("from", "l1", True), ("from", "l1", "7"), ("until", "l1", (7, 1)), ("until", "", 7), ("from", "l1"), ("until", "l1", 1, 1),
            ("apart", "l1", "l1", 1), ("apart", "", "", 1), ("apart", "l1", "l2", True), ("apart", "l1", "l2"), ("apart", "l1", "l2", 1, 1), ("apart", 1, "l2", 1),
            ("clear", "s1", "egg"), ("found", "S1", "nuts"), ("clear", "s1"), ("found", "s1", "nuts", "nuts"), ("found", None, "nuts"),
            ("measured", "s1", ("east",), (1, 2), (1, 3)), ("measured", "s1", ("east",), (1, 2)), ("measured", "s1", (), (0, 1), (1, 1)),
            ("measured", "s1", ("east",), (-1, 2), (1, 2)), ("measured", "s1", ("east",), (0, 1), (3, 2)), ("measured", "s1", ("east",), 0, 1),
            ("row", (), (1, 2)), ("row", PARTS, 1), ("row", PARTS[::-1], (1, 2)), ("row", list(PARTS), (1, 2)), ("row", PARTS), ("row", PARTS, "<=", (1, 2)),
            ("row", ((("l1", "south"), (1, 2)),), (1, 2)), ("row", ((("l1", "east"), (0, 1)),), (1, 2)), ("row", None, (1, 2)),
            ("clause", CLAUSE[::-1]), ("clause", list(CLAUSE)), ("clause", ((("l1", "nuts"), 1),)), ("clause", ((("l1", "egg"), True),)), ("clause",),
            ("clause", (), ()), ("clause", None), ("clause", ((("l1", "nuts"), True), (("l1", "nuts"), False))),
            ("says", ("not", atom)), ("says", ("and", (NUTS, ("not", ("or", (SOY, atom)))))), ("says", ("not", ("not", atom))), ("says", ("bears", "l1", "egg")),
            ("says",), ("says", NUTS, NUTS), ("says", None), ("says", nested(21)), ("says", ("or", (NUTS,) * 601)), ("says", ("days", "l1", "l1", 0)),
            ("says", ("and", [NUTS])), ("least",), (), None, "bears", 7, True, ["bears", "l1", "nuts"], ("free", "nuts"), ("", "l1"), (["bears"], "l1", "nuts"),
        ]:
            with self.subTest(bad=bad):
                papers = Papers(self.stock)
                for told in (lambda: formula_of(self.stock, bad), lambda: papers.put(bad)):
                    with self.assertRaises(BadPaper) as caught:
                        told()
                    self.assertEqual(caught.exception.paper, bad)
                self.assertEqual((papers.next_number, papers.in_force()), (1, ()))
        self.assertEqual(formula_of(self.stock, ("says", nested(20))), nested(20))
        self.assertEqual(formula_of(self.stock, ("says", ("or", (NUTS,) * 600))), ("or", (NUTS,) * 600))

    def test_no_thing(self):
        half = (1, 2)
        for paper, name in [
            (("least", "l9", ("east",), half), "l9"), (("bears", "b1", "nuts"), "b1"), (("lacks", "kettle", "nuts"), "kettle"), (("from", "s1", 1), "s1"),
            (("until", "l4", 1), "l4"), (("apart", "l8", "l9", 1), "l8"), (("apart", "l1", "l9", 1), "l9"), (("apart", "", "l9", 1), "l9"),
            (("clear", "s9", "nuts"), "s9"), (("found", "l1", "nuts"), "l1"), (("measured", "b1", ("east",), half, half), "b1"), (("clear", "kettle", "nuts"), "kettle"),
            (("row", ((("l1", "east"), half), (("l7", "east"), half), (("l8", "east"), half)), half), "l7"),
            (("clause", ((("l0", "nuts"), True), (("l9", "soy"), False))), "l0"),
            (("says", ("or", (NUTS, ("days", "l9", "l8", 1), ("bears", "l0", "nuts")))), "l9"), (("says", ("days", "", "l8", 1)), "l8"),
        ]:
            with self.subTest(paper=paper):
                for told in (lambda: formula_of(self.stock, paper), lambda: Papers(self.stock).put(paper)):
                    with self.assertRaises(NoThing) as caught:
                        told()
                    self.assertEqual(caught.exception.name, name)

    def test_forgotten(self):
        papers = Papers(self.stock)
        papers.put(("found", "s1", "soy"))
        formula = formula_of(self.stock, ("found", "s1", "soy"))
        self.stock.do(("forget", "s1"))
        self.assertEqual(papers.formulas(), (formula,))
        self.assertEqual(papers.in_force(), ((1, ("found", "s1", "soy")),))
        with self.assertRaises(NoThing):
            papers.put(("clear", "s1", "nuts"))
        with self.assertRaises(Quarrel):
            papers.put(("says", ("not", formula)))
        papers.withdraw(1)
        papers.put(("says", ("not", formula)))


class InForce(unittest.TestCase):
    def setUp(self):
        self.stock = office()
        self.papers = Papers(self.stock)

    def state(self):
        papers = self.papers
        return (papers.sealed, papers.in_force(), papers.formulas(), papers.next_number)

    def refused(self, error, told):
        before = self.state()
        with self.assertRaises(error) as caught:
            told()
        self.assertIs(type(caught.exception), error)
        self.assertEqual(self.state(), before)
        return caught.exception

    def test_numbers(self):
        papers = self.papers
        self.assertEqual(self.state(), ((), (), (), 1))
        told = [("from", "l1", 2), ("until", "l1", 9), ("from", "l2", 3), ("bears", "l3", "soy")]
        self.assertEqual([papers.put(paper) for paper in told], [1, 2, 3, 4])
        self.assertIsNone(papers.withdraw(2))
        self.assertIsNone(papers.amend(1, ("from", "l1", 5)))
        self.assertEqual(papers.put(("until", "l3", 8)), 5)
        self.assertIsNone(papers.withdraw(5))
        self.assertEqual(papers.next_number, 6)
        self.assertEqual(papers.in_force(), ((1, ("from", "l1", 5)), (3, ("from", "l2", 3)), (4, ("bears", "l3", "soy"))))
        self.assertEqual(papers.formulas(), (("days", "l1", "", -5), ("days", "l2", "", -3), ("bears", "l3", "soy")))

    def test_no_paper(self):
        self.papers.put(("from", "l1", 2))
        for number in (0, 2, -1, True, "1", None, (1,), [1], 1.0):
            error = self.refused(NoPaper, lambda: self.papers.withdraw(number))
            self.assertEqual(error.number, number)
            self.refused(NoPaper, lambda: self.papers.amend(number, None))
        self.papers.withdraw(1)
        self.refused(NoPaper, lambda: self.papers.withdraw(1))
        self.refused(NoPaper, lambda: self.papers.amend(1, ("bears", "l9", "egg")))

    def test_order_of_errors(self):
        papers = self.papers
        for k in range(24):
            papers.put(("from", "l1", k))
        never = ("clause", ())
        self.refused(BadPaper, lambda: papers.put(("bears", "l9", "egg")))
        self.refused(NoThing, lambda: papers.put(("bears", "l9", "soy")))
        self.assertEqual(self.refused(TooMany, lambda: papers.put(never)).kind, "paper")
        self.assertEqual(self.refused(Quarrel, lambda: papers.amend(7, never)).numbers, (7,))
        self.refused(BadPaper, lambda: papers.amend(7, None))
        self.refused(NoThing, lambda: papers.amend(7, ("until", "l9", 1)))
        papers.amend(24, ("from", "l2", 1))
        papers.withdraw(3)
        self.assertEqual(papers.put(("from", "l3", 1)), 25)
        self.refused(TooMany, lambda: papers.put(("from", "l3", 1)))

    def test_quarrel(self):
        papers = self.papers
        papers.put(("least", "l1", ("east",), (1, 2)))
        papers.put(("bears", "l3", "nuts"))
        papers.put(("least", "l2", ("east",), (1, 2)))
        error = self.refused(Quarrel, lambda: papers.put(("measured", "s1", ("west",), (3, 5), (1, 1))))
        self.assertEqual(error.numbers, (1, 3, 4))
        self.assertEqual(self.refused(Quarrel, lambda: papers.put(("lacks", "l3", "nuts"))).numbers, (2, 4))
        self.assertEqual(self.refused(Quarrel, lambda: papers.amend(1, ("clear", "s2", "nuts"))).numbers, (1, 2))
        self.assertEqual(self.refused(Quarrel, lambda: papers.amend(3, ("most", "l2", ("east", "west"), (1, 2)))).numbers, (3,))
        # What is exchanged does not quarrel with what comes for it.
        papers.amend(2, ("lacks", "l3", "nuts"))
        self.assertEqual(papers.put(("measured", "s1", ("west",), (1, 2), (1, 1))), 4)

    def test_random_quarrels(self):
        random = Random(30)
        seen = 0
        for k in range(60):
            self.stock = office(random.randint(1, 3))
            self.papers = Papers(self.stock)
            for _ in range(14):
                paper = random_paper(random, self.stock)
                told = {number: one for number, one in self.papers.in_force()}
                number = self.papers.next_number
                if told and random.random() < 0.3:
                    number = random.choice(list(told))
                before = self.state()
                try:
                    if number in told:
                        self.papers.amend(number, paper)
                    else:
                        self.assertEqual(self.papers.put(paper), number)
                except Quarrel as error:
                    seen += 1
                    self.assertEqual(self.state(), before)
                    self.held({**told, number: paper}, number, error.numbers)
                self.assertIn(self.papers.allowed(), self.papers)
        self.assertGreater(seen, 100)

    def held(self, told, number, numbers):
        """Holds a least quarrel against [26]."""
        self.assertIn(number, numbers)
        self.assertEqual(list(numbers), sorted(set(numbers)))
        formulas = [formula_of(self.stock, told[one]) for one in numbers]
        lots = self.stock.lot_names()
        word, tree = find(self.stock.plant, lots, formulas)
        self.assertEqual(word, "tree")
        shuts_again(self.stock.plant, lots, formulas, tree)
        for k in range(len(formulas)):
            self.assertEqual(find(self.stock.plant, lots, formulas[:k] + formulas[k + 1:])[0], "world")

    def test_allowed(self):
        papers = self.papers
        self.assertEqual(papers.allowed().lots, ("l1", "l2", "l3"))
        papers.put(("bears", "l2", "soy"))
        papers.put(("from", "l3", 4))
        world = papers.allowed()
        self.assertIsInstance(world, World)
        self.assertTrue(world.bears("l2", "soy") and world.day("l3") >= 4)
        # A lot that comes later is in the worlds then.
        self.stock.do(("take", "l0", "pot", 1))
        self.assertEqual(papers.allowed().lots, ("l0", "l1", "l2", "l3"))
        self.assertNotIn(world, papers)

    def test_in(self):
        papers = self.papers
        papers.put(("bears", "l2", "soy"))
        papers.put(("measured", "s1", ("east",), (1, 2), (3, 4)))
        plant = self.stock.plant

        def world(first, second, traits, day=0, last="l3"):
            other = [(a, 4 - a) for a in (first, second)]
            shares = [tuple({0: (0, 1), 1: (1, 4), 2: (1, 2), 3: (3, 4), 4: (1, 1)}[n] for n in pair) for pair in other]
            return World(plant, [("l1", shares[0], (), day), ("l2", shares[1], traits, 0), (last, shares[0], (), 0)])

        for told, good in [(world(2, 2, ("soy",)), True), (world(0, 4, ("nuts", "soy"), -9), True), (world(4, 4, ("soy",)), False), (world(4, 1, ("soy",)), False),
                           (world(2, 2, ("nuts",)), False), (world(2, 2, ("soy",), 0, "l4"), False)]:
            self.assertEqual(told in papers, good)
        good = world(2, 2, ("soy",))
        self.assertNotIn(World(plant, good.rows[:2]), papers)
        self.assertNotIn(good.changed(("l4", *good.rows[0][1:])), papers)
        self.assertNotIn(World(plant_of(2), good.rows).changed(("l1", ((1, 1), (0, 1)), (), 0)).rows, papers)
        self.assertIn(World(plant_of(2), good.rows), papers)
        self.assertNotIn(World(Stock(plant_of(3)).plant, [(lot, (*shares, (0, 1)), traits, day) for lot, shares, traits, day in good.rows]), papers)
        for other in (None, good.rows, "world", 3, papers):
            self.assertFalse(other in papers)

    def test_search(self):
        papers = self.papers
        papers.put(("bears", "l2", "soy"))
        word, world = papers.search()
        self.assertTrue(word == "world" and world in papers)
        word, world = papers.search(NUTS, ("not", ("bears", "l3", "nuts")), share({("l1", "east"): 1}, 1))
        self.assertTrue(word == "world" and world in papers and world.bears("l1", "nuts"))
        self.assertEqual(world.share("l1", "east"), (1, 1))
        formulas = (NUTS, ("or", (("not", NUTS), ("not", SOY))))
        word, tree = papers.search(*formulas)
        self.assertEqual(word, "tree")
        self.assertTrue(closed(self.stock.plant, ("l1", "l2", "l3"), [*papers.formulas(), *formulas], tree))
        with self.assertRaises(BadFormula) as caught:
            papers.search(("bears", "l9", "nuts"), None)
        self.assertIsNone(caught.exception.formula)
        with self.assertRaises(NoLot) as caught:
            papers.search(NUTS, ("bears", "l9", "nuts"))
        self.assertEqual(caught.exception.name, "l9")

    def test_copy_for(self):
        put_some(Random(3), self.papers, 12)
        before = self.state()
        stock = self.stock.copy()
        other = self.papers.copy_for(stock)
        self.assertEqual((other.sealed, other.in_force(), other.formulas(), other.next_number), before)
        stock.do(("take", "l9", "pot", 1))
        other.put(("bears", "l9", "nuts"))
        other.withdraw(other.in_force()[0][0])
        self.assertEqual(self.state(), before)
        self.assertEqual(len(self.papers.allowed()), 3)
        self.assertEqual(len(other.allowed()), 4)
        papers = other.in_force()
        self.papers.withdraw(self.papers.in_force()[-1][0])
        self.assertEqual(other.in_force(), papers)

    def test_opened(self):
        sealed = (("row", PARTS, (-1, 1)), ("clause", CLAUSE), ("apart", "l1", "l2", 3), ("says", ("or", (NUTS, SOY))))
        force = ((3, ("lacks", "l1", "nuts")), (9, ("from", "l2", 4)))
        for told in (tuple, list):
            self.papers = Papers.opened(self.stock, told(sealed), told(force), 12)
            papers = self.papers
            self.assertEqual((papers.sealed, papers.in_force(), papers.next_number), (sealed, force, 12))
            self.assertEqual(papers.formulas(), tuple(formula_of(self.stock, paper) for paper in sealed + tuple(paper for _, paper in force)))
            world = papers.allowed()
            self.assertTrue(world in papers and world.bears("l2", "soy"))
            self.assertTrue(all(is_true(formula, world.rows, BOTH) for formula in papers.formulas()))
        # The sealed papers have no numbers, and are in no quarrel.
        self.assertEqual(self.refused(Quarrel, lambda: papers.put(("lacks", "l2", "soy"))).numbers, (3, 12))
        self.assertEqual(self.refused(Quarrel, lambda: papers.put(("apart", "l2", "l1", -4))).numbers, (12,))
        self.refused(NoPaper, lambda: papers.withdraw(1))
        self.assertEqual(papers.put(("from", "l1", 1)), 12)
        copy = papers.copy_for(self.stock.copy())
        self.assertEqual((copy.sealed, copy.next_number), (sealed, 13))


if __name__ == "__main__":
    unittest.main()
