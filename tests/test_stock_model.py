"""Random rows of deeds, held against the plain model."""

import unittest
from fractions import Fraction
from random import Random

from model import Model, random_deed
from swornlots import errors
from swornlots.plants import Plant
from swornlots.stocks import Stock

PLANTS = (
    (("kettle", 40, 5), ("pot", 30, 0), ("vat", 20, 3)),
    (("kettle", 25, 0),),
    (("a", 30, 29), ("b", 100, 10)),
)


def argument_of(error):
    """The one argument of an error of a deed."""
    told = {key: value for key, value in vars(error).items() if key != "class_name"}
    (value,) = told.values()
    return value


class RandomRows(unittest.TestCase):
    def balance(self, stock):
        """For each lot: what is in places, thrown away and used up is what was taken."""
        places = [(stock.level(v), stock.mix(v)) for v in stock.plant]
        places += [(stock.amount(b), stock.mix(b)) for b in stock.box_names()]
        for lot in stock.lot_names():
            taken, thrown, spent = [Fraction(*pair) for pair in stock.units(lot)]
            there = sum(amount * Fraction(*dict(mix).get(lot, (0, 1))) for amount, mix in places)
            self.assertEqual(taken, there + thrown + spent)

    def contents(self, stock):
        """Mixes come to 1, are ascending, without zeros, and all of the mix is touched."""
        for thing in (*stock.plant, *stock.box_names(), *stock.sample_names()):
            mix, touched = stock.content(thing)
            self.assertEqual(list(touched), sorted(set(touched)))
            self.assertEqual([lot for lot, _ in mix], sorted({lot for lot, _ in mix}))
            self.assertTrue(all(Fraction(*share) > 0 for _, share in mix))
            self.assertTrue({lot for lot, _ in mix} <= set(touched))
            empty = thing in stock.plant and stock.level(thing) == 0
            self.assertEqual(sum(Fraction(*share) for _, share in mix), 0 if empty else 1)
            self.assertEqual((stock.mix(thing), stock.touched(thing)), (mix, touched))

    def row(self, seed, vessels, length):
        random = Random(seed)
        stock, model = Stock(Plant(["east"], [], vessels)), Model(vessels)
        refused = set()
        for _ in range(length):
            deed = random_deed(random, stock)
            why = model.refusal(deed)
            before = stock.state()
            if why is None:
                model.do(deed)
                self.assertEqual(stock.do(deed), len(model.deeds))
            else:
                with self.assertRaises(getattr(errors, why[0])) as caught:
                    stock.do(deed)
                self.assertEqual(argument_of(caught.exception), why[1])
                self.assertEqual(stock.state(), before)
                refused.add(why[0])
            self.assertEqual(stock.state(), model.state())
            self.assertEqual(stock.deeds, tuple(model.deeds))
        self.balance(stock)
        self.contents(stock)
        return refused

    def test_random_rows(self):
        refused = set()
        for seed in range(60):
            refused |= self.row(seed, PLANTS[seed % 3], 60)
        self.assertTrue(refused >= {"NoThing", "Short", "Full", "Empty", "Known"}, refused)

    def test_long_rows(self):
        for seed in range(4):
            self.row(1000 + seed, PLANTS[seed % 2], 420)


if __name__ == "__main__":
    unittest.main()
