"""Contents."""

import unittest

from swornlots.contents import blend, only


class Contents(unittest.TestCase):
    def test_only(self):
        self.assertEqual(only("l1"), ((("l1", (1, 1)),), ("l1",)))

    def test_blend(self):
        mixed = ((("a", (1, 2)), ("b", (1, 2))), ("a", "b", "d"))
        self.assertEqual(
            blend([((1, 3), only("c")), ((2, 3), mixed)]),
            ((("a", (1, 3)), ("b", (1, 3)), ("c", (1, 3))), ("a", "b", "c", "d")))
        self.assertEqual(
            blend((((1, 4), only("b")), ((3, 4), mixed))),
            ((("a", (3, 8)), ("b", (5, 8))), ("a", "b", "d")))

    def test_zero_weights_touch_only(self):
        self.assertEqual(blend([((0, 1), only("b")), ((1, 1), only("a"))]), ((("a", (1, 1)),), ("a", "b")))

    def test_empty_contents(self):
        self.assertEqual(blend([]), ((), ()))
        self.assertEqual(blend([((0, 1), ((), ("z", )))]), ((), ("z",)))
        self.assertEqual(blend([((2, 1), ((), ("z", ))), ((1, 1), only("a"))]), ((("a", (1, 1)),), ("a", "z")))

    def test_weights_need_not_come_to_one(self):
        self.assertEqual(blend([((5, 2), only("a")), ((1, 2), only("a"))]), ((("a", (3, 1)),), ("a",)))

    def test_argument_stays(self):
        parts = [((1, 1), only("a"))]
        blend(parts)
        self.assertEqual(parts, [((1, 1), only("a"))])


if __name__ == "__main__":
    unittest.main()
