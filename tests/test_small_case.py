"""The small case of [54], from its beginning to its end."""

import unittest
from fractions import Fraction

from swornlots.asking import answer, greatest_share, least_share
from swornlots.books import read_book, write_book
from swornlots.calls import called_boxes, calls, letters
from swornlots.claims import Claim, claim_formula
from swornlots.clearing import clearing_of
from swornlots.cutting import cut
from swornlots.errors import Unsure
from swornlots.houses import House, News
from swornlots.plants import Plant
from swornlots.settling import settling_of
from swornlots.ways import ways


class SmallCase(unittest.TestCase):
    def test_all(self):
        plant = Plant(["east", "west"], ["nuts"], [("kettle", 100, 10)])
        house = House(plant)
        for deed in [("take", "l1", "kettle", 30), ("pack", "kettle", "b1", 20), ("take", "l2", "kettle", 30), ("pack", "kettle", "b2", 20)]:
            house.act(("do", deed))
        stock = house.stock_now()
        self.assertEqual(stock.mix("b1"), (("l1", (1, 1)),))
        self.assertEqual(stock.mix("b2"), (("l1", (1, 4)), ("l2", (3, 4))))

        self.assertTrue(house.put_paper(("lacks", "l2", "nuts")) == News(1, (), ()))
        free = Claim.read("free nuts").tree
        content = stock.content("b2")
        self.assertEqual(answer(house.papers_now(), claim_formula(plant, content, free)), "open")
        with self.assertRaises(Unsure) as caught:
            house.label("b2", free)
        self.assertTrue(caught.exception.world.bears("l1", "nuts"))
        self.assertFalse(caught.exception.world.bears("l2", "nuts"))
        self.assertEqual(list(ways(stock, "l1", "b2")), [((1, 4), (1, 4))])

        self.assertTrue(house.put_paper(("least", "l2", ("east",), (4, 5))) == News(2, (), ()))
        self.assertEqual(least_share(house.papers_now(), content, ("east",))[0], (3, 5))
        self.assertEqual(greatest_share(house.papers_now(), content, ("east",))[0], (1, 1))
        house.label("b2", Claim.read("least 3/5 of east").tree)
        self.assertEqual(house.verdict("b2").word, "sure")
        house.send("b2", "ann")

        self.assertTrue(house.amend(2, ("least", "l2", ("east",), (3, 4))) == News(2, ("b2",), ()))
        self.assertEqual(called_boxes(house), ("b2",))
        self.assertEqual(letters(house), (("ann", ("b2",)),))
        (call,) = calls(house)
        self.assertEqual((call.box, call.customer, call.claim), ("b2", "ann", ("least", (3, 5), ("east",))))
        self.assertEqual(call.ways, (("l1", (1, 4)), ("l2", (3, 4))))
        self.assertIn(call.world, house.papers_now())
        share = Fraction(1, 4) * Fraction(*call.world.share("l1", "east")) + Fraction(3, 4) * Fraction(*call.world.share("l2", "east"))
        self.assertLess(share, Fraction(3, 5))
        # As the document tells it.
        self.assertEqual((call.world.share("l1", "east"), call.world.share("l2", "east")), ((0, 1), (3, 4)))
        self.assertTrue(House.again(plant, house.acts) == house)
        self.assertTrue(read_book(write_book(house)) == house)
        self.told_by_a_test_and_a_cut(house)

    def told_by_a_test_and_a_cut(self, house):
        """What can be asked of the box that is called back, before and behind a cut."""
        claim = house.label_of("b2")
        for told in (house, cut(house), read_book(write_book(cut(house)))):
            self.assertEqual((called_boxes(told), letters(told)), (("b2",), (("ann", ("b2",)),)))
            clearing = clearing_of(told, ["b2"], [(9, "b2", claim), (4, "kettle", ("least", (3, 5), ("east",))), (1, "kettle", ("free", "nuts"))])
            self.assertEqual((clearing.tests, clearing.price), ((1,), 4))
            self.assertEqual(settling_of(told, ["b2"], [(9, "b2", claim)]).plan, ("ask", 0, ("end", ("sure",)), ("end", ("never",))))
            papers = told.papers_now()
            self.assertEqual(least_share(papers, told.stock_now().content("b2"), ("east",))[0], (9, 16))
            self.assertEqual(answer(papers, ("bears", "l2", "nuts")), "never")
            self.assertTrue(told.put_paper(("least", "l1", ("east",), (3, 20))) == News(3, (), ("b2",)))
            self.assertEqual(told.withdraw(3).called, ("b2",))


if __name__ == "__main__":
    unittest.main()
