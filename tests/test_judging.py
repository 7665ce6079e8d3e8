"""Verdicts."""

import unittest
from random import Random

from offices import office, put_some
from proving import plant_of, shuts_again
from swornlots.cases import closed
from swornlots.claims import Claim, claim_formula
from swornlots.errors import NoClaim, NoLot, Unknown
from swornlots.judging import Verdict, judge
from swornlots.papers import Papers
from test_claimtexts import random_claim

FREE = ("free", "nuts")


class Verdicts(unittest.TestCase):
    def setUp(self):
        self.stock = office()
        self.papers = Papers(self.stock)

    def held(self, content, claim):
        """The word of a verdict that is held against [31]."""
        verdict = judge(self.papers, content, claim)
        plant, lots = self.stock.plant, tuple(sorted(self.stock.lot_names()))
        self.assertIsInstance(verdict, Verdict)
        self.assertIs(bool(verdict), verdict.word == "sure")
        formula = claim_formula(plant, content, claim)
        self.assertEqual(verdict.broken is None, verdict.word == "sure")
        self.assertEqual(verdict.kept is None, verdict.word == "never")
        self.assertEqual(verdict.tree is None, verdict.word == "open")
        for world, told in ((verdict.broken, False), (verdict.kept, True)):
            if world is not None:
                self.assertIn(world, self.papers)
                self.assertEqual(world.lots, lots)
                self.assertIs(Claim(claim)(plant, content, world), told)
        if verdict.tree is not None:
            formulas = [*self.papers.formulas(), ("not", formula) if verdict else formula]
            shuts_again(plant, lots, formulas, verdict.tree)
            self.assertTrue(closed(plant, lots, formulas, verdict.tree))
        return verdict.word

    def test_words(self):
        content = self.stock.content("s1")
        self.assertEqual(self.held(content, FREE), "open")
        self.papers.put(("clear", "s1", "nuts"))
        self.assertEqual(self.held(content, FREE), "sure")
        self.assertEqual(self.held(content, ("not", FREE)), "never")
        self.assertEqual(self.held(content, ("least", (1, 1), ("east", "west"))), "sure")
        self.assertEqual(self.held(content, ("or", ("least", (1, 2), ("east",)), ("least", (1, 2), ("west",)))), "sure")
        self.assertEqual(self.held(content, ("and", ("least", (2, 3), ("east",)), ("least", (2, 3), ("west",)))), "never")

    def test_touched(self):
        content = self.stock.content("b2")
        self.assertEqual(content[1], ("l1", "l2", "l3"))
        mix = (content[0][:1], content[1])
        alone = ((("l1", (1, 1)),), ("l1", "l3"))
        self.papers.put(("lacks", "l1", "nuts"))
        self.assertEqual((self.held(alone, FREE), self.held(alone, ("untouched", "nuts"))), ("sure", "open"))
        self.papers.put(("lacks", "l3", "nuts"))
        self.assertEqual(self.held(alone, ("untouched", "nuts")), "sure")
        self.assertEqual(len(mix), 2)

    def test_random(self):
        random = Random(31)
        words = []
        for k in range(60):
            self.stock = office(random.randint(1, 4))
            self.papers = Papers(self.stock)
            put_some(random, self.papers, random.randint(0, 24))
            for thing in ("s1", "b1", "b2"):
                words.append(self.held(self.stock.content(thing), random_claim(random, 3, farms=self.stock.plant.farms[:2])
                                       if len(self.stock.plant.farms) > 1 else FREE))
        self.assertTrue(min(words.count(word) for word in ("sure", "never", "open")) > 15, words)

    def test_errors(self):
        content = ((("l8", (1, 2)), ("l9", (1, 2))), ("l1", "l7", "l8", "l9"))
        for claim, error, told in [(("and", FREE, None), NoClaim, "claim"), (("and", FREE, ("free", "egg")), Unknown, "name"), (FREE, NoLot, "name")]:
            with self.assertRaises(error) as caught:
                judge(self.papers, content, claim)
            self.assertEqual(getattr(caught.exception, told), {NoClaim: claim, Unknown: "egg", NoLot: "l7"}[error])

    def test_stays(self):
        content = self.stock.content("b1")
        self.papers.put(("clear", "s1", "nuts"))
        verdict, other = judge(self.papers, content, FREE), judge(self.papers, content, ("since", 4))
        before = (verdict.word, verdict.broken, verdict.kept.rows, verdict.tree, other.word, other.broken.rows, other.kept.rows, other.tree)
        self.papers.withdraw(1)
        self.papers.put(("bears", "l1", "nuts"))
        self.papers.put(("from", "l1", 9))
        self.stock.do(("take", "l9", "pot", 1))
        self.stock.do(("end", "b1"))
        after = (verdict.word, verdict.broken, verdict.kept.rows, verdict.tree, other.word, other.broken.rows, other.kept.rows, other.tree)
        self.assertEqual(before, after)
        self.assertTrue(verdict and not other)

    def test_one_farm(self):
        self.stock = office(1)
        self.papers = Papers(self.stock)
        self.assertEqual(plant_of(1), self.stock.plant)
        self.assertEqual(self.held(self.stock.content("b2"), ("single",)), "sure")
        self.assertEqual(self.held(self.stock.content("b2"), ("most", (1, 2), ("east",))), "never")


if __name__ == "__main__":
    unittest.main()
