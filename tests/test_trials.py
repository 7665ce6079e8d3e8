"""Trials: deeds that are taken back."""

import unittest

from model import stock_of
from swornlots.errors import Full, LotError, NoThing, Short
from swornlots.plants import Plant
from swornlots.stocks import Stock
from swornlots.trials import Trial, branches, state_after

PLANT = Plant(["east"], [], [("kettle", 100, 10), ("pot", 50, 0)])
START = (("take", "l1", "pot", 20), ("pack", "pot", "b1", 5), ("sample", "pot", "s1"))


def begun():
    return stock_of(PLANT, START)


class Trials(unittest.TestCase):
    def setUp(self):
        self.stock = begun()
        self.before = (self.stock.state(), self.stock.deeds, self.stock.opening)

    def tearDown(self):
        self.assertEqual((self.stock.state(), self.stock.deeds, self.stock.opening), self.before)
        self.assertTrue(self.stock == begun())

    def test_gives_the_stock_itself(self):
        with Trial(self.stock) as tried:
            self.assertIs(tried, self.stock)
            self.assertEqual(tried.do(("open", "b1", "kettle")), 4)
            self.assertEqual(tried.do(("take", "l2", "kettle", 4)), 5)
            self.assertEqual(self.stock.level("kettle"), 9)
            tried.do(("forget", "s1"))
            tried.do(("wash", "pot"))

    def test_behind_errors(self):
        with self.assertRaises(NoThing):
            with Trial(self.stock) as tried:
                tried.do(("wash", "pot"))
                tried.do(("wash", "nix"))
        with self.assertRaises(KeyError):
            with Trial(self.stock) as tried:
                tried.do(("wash", "pot"))
                raise KeyError("x")

    def test_nested(self):
        with Trial(self.stock):
            self.stock.do(("wash", "pot"))
            middle = self.stock.state()
            with Trial(self.stock):
                self.stock.do(("open", "b1", "kettle"))
            self.assertEqual(self.stock.state(), middle)

    def test_one_trial_again_and_inside_of_itself(self):
        trial = Trial(self.stock)
        for _ in range(2):
            with trial:
                self.stock.do(("wash", "pot"))
                middle = self.stock.state()
                with trial:
                    self.stock.do(("end", "b1"))
                self.assertEqual(self.stock.state(), middle)
            self.assertEqual(self.stock.state(), self.before[0])

    def test_begins_with_the_block(self):
        stock = begun()
        trial = Trial(stock)
        stock.do(("wash", "pot"))
        with trial as tried:
            tried.do(("end", "b1"))
        self.assertEqual(stock.deeds, (*START, ("wash", "pot")))

    def test_state_after(self):
        deeds = [("open", "b1", "kettle"), ("take", "l2", "kettle", 5)]
        stock = begun()
        for deed in deeds:
            stock.do(deed)
        self.assertEqual(state_after(self.stock, deeds), stock.state())
        self.assertEqual(state_after(self.stock, tuple(deeds)), stock.state())
        self.assertEqual(state_after(self.stock, []), self.before[0])
        self.assertEqual(deeds, [("open", "b1", "kettle"), ("take", "l2", "kettle", 5)])

    def test_state_after_with_a_deed_that_is_refused(self):
        for at in range(3):
            deeds = [("drain", "kettle"), ("drain", "kettle")]
            deeds.insert(at, ("pack", "pot", "b2", 16))
            deeds.append(("wash", "nix"))
            with self.assertRaises(Short) as caught:
                state_after(self.stock, deeds)
            self.assertEqual(caught.exception.name, "pot")

    def test_branches(self):
        deeds = [("take", "l2", "kettle", 20)]
        rows = [
            [],
            [("open", "b1", "kettle")],
            (("wash", "kettle"), ("wash", "pot")),
            [("wash", "kettle"), ("pack", "kettle", "b2", 1), ("wash", "nix")],
            [("take", "l1", "pot", 36)],
            [("wash", "nix")],
            [("sample", "kettle", "s1")],
            [["wash", "pot"]],
            [("wash", "pot"), ("sample", "pot", "s2")],
        ]
        kept = [list(row) for row in rows]
        told = branches(self.stock, deeds, rows)
        self.assertIsInstance(told, tuple)
        self.assertEqual(told[3:], ("Short", "Full", "NoThing", "Known", "BadDeed", "Empty"))
        for row, state in zip(rows[:3], told):
            self.assertEqual(state, state_after(self.stock, [*deeds, *row]))
        self.assertEqual([list(row) for row in rows], kept)
        self.assertEqual(deeds, [("take", "l2", "kettle", 20)])

    def test_branches_name_too_many(self):
        lots = [("take", "m%d" % k, "kettle", 1) for k in range(12)]
        self.assertEqual(branches(self.stock, [], [lots]), ("TooMany",))

    def test_branches_with_deeds_that_are_refused(self):
        for at in range(2):
            deeds = [("drain", "kettle")]
            deeds.insert(at, ("take", "l1", "pot", 36))
            with self.assertRaises(Full):
                branches(self.stock, deeds, [[("wash", "nix")]])

    def test_no_rows(self):
        self.assertEqual(branches(self.stock, [("wash", "pot")], ()), ())


class InEarnest(unittest.TestCase):
    def test_numbers_behind_a_trial(self):
        stock = begun()
        state_after(stock, [("wash", "pot"), ("wash", "kettle")])
        branches(stock, [("wash", "pot")], [[("end", "b1")]])
        self.assertEqual(stock.do(("wash", "pot")), 4)
        self.assertEqual(stock.do(("end", "b1")), 5)

    def test_opened_stocks(self):
        stock = Stock.opened(PLANT, begun().state())
        before = stock.state()
        with Trial(stock) as tried:
            self.assertEqual(tried.do(("wash", "pot")), 1)
        self.assertEqual((stock.state(), stock.opening, stock.deeds), (before, before, ()))
        try:
            with Trial(stock) as tried:
                tried.do(("end", "b1"))
                tried.do(("end", "b1"))
        except LotError:
            pass
        self.assertEqual(stock.state(), before)


if __name__ == "__main__":
    unittest.main()
