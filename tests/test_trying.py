"""Acts that are tried in a house."""

import unittest

from swornlots.errors import NoThing, Quarrel
from swornlots.trying import WhatIf, tried
from test_houses import FREE, LABELLED, SURE, begun, told_by


class Trying(unittest.TestCase):
    def setUp(self):
        self.house = begun(*LABELLED)
        self.before, self.same = told_by(self.house), self.house.copy()

    def tearDown(self):
        self.assertEqual(told_by(self.house), self.before)
        self.assertTrue(self.house == self.same)

    def test_gives_the_house_itself(self):
        with WhatIf(self.house) as house:
            self.assertIs(house, self.house)
            self.assertEqual(house.withdraw(2).called, ("b3",))
            house.do(("end", "b1"))
            house.do(("take", "l7", "pot", 3))
            self.assertEqual(len(house.acts), len(self.same.acts) + 3)

    def test_behind_errors(self):
        with self.assertRaises(NoThing):
            with WhatIf(self.house) as house:
                house.send("b1", "bob")
                house.bare("b9")
        with self.assertRaises(ZeroDivisionError):
            with WhatIf(self.house) as house:
                house.do(("wash", "kettle"))
                1 // 0

    def test_within_another_one(self):
        with WhatIf(self.house) as house:
            house.send("b1", "bob")
            middle = told_by(house)
            with WhatIf(house):
                house.withdraw(1)
                with self.assertRaises(Quarrel):
                    house.put_paper(("bears", "l2", "nuts"))
            self.assertEqual(told_by(house), middle)
        again = WhatIf(self.house)
        with again as house:
            house.bare("b1")
            middle = told_by(house)
            with again:
                house.bare("b2")
            self.assertEqual(told_by(house), middle)

    def test_tried(self):
        acts = [
            ("send", "b1", "bob"), ("send", "b1", "bob"), ("do", ("part", "b1", "b9", 1)), ("do", ("part", "b2", "b9", 1)), ("bare", "b9"), ("label", "b9", FREE),
            ("withdraw", 2), ("withdraw", 2), ("send", "b9", "bob"), ("label", "b9", FREE), ("label", "b9", SURE), ("amend", 1, ("bears", "l1", "nuts")),
            ("paper", ("lacks", "l1", "nuts")), ("paper", ("lacks", "l1", "egg")), ("nothing",), None, ("do", None), ("send", "b2", ""), ("label", "b2", None),
            ("label", "b2", ("free", "egg")), ("do", ("pack", "kettle", "b8", 999)), ("do", ("wash", "kettle")), ("do", ("sample", "kettle", "s9")),
        ]
        told = ["done", "Sent", "Sent", "done", "Bare", "done", "done", "NoPaper", "Called", "Unsure", "done", "done", "Quarrel", "BadPaper", "BadAct", "BadAct", "BadDeed",
                "BadName", "NoClaim", "Unknown", "Short", "done", "Empty"]
        for kind in (list, tuple):
            self.assertEqual(tried(self.house, kind(acts)), told)
        self.assertEqual(tried(self.house, ()), [])


if __name__ == "__main__":
    unittest.main()
