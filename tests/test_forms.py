"""Names and reserved words."""

import unittest

from swornlots.forms import RESERVED, is_name


class Names(unittest.TestCase):
    def test_reserved(self):
        self.assertIsInstance(RESERVED, tuple)
        self.assertEqual(RESERVED, tuple((
            "and or not free untouched least most of since until single recipe take move drain wash pack repeat "
            "when else end done yes no none").split()))

    def test_names(self):
        for name in ["a", "z", "a0", "z9", "abcdefgh", "a2345678", "east", "andy", "sample", "forget", "part", "open"]:
            self.assertIs(is_name(name), True, name)

    def test_no_names(self):
        for thing in [
            "", "abcdefghi", "a23456789", "0a", "9", "A", "aB", "a_b", "a-b", "a b", " a", "a ", "a\n", "\u00e9", "a\u00e9",
            "a\u0661", "\u0430", "1", None, True, 1, ("a",), ["a"], b"a", {"a": 1},
        ]:
            self.assertIs(is_name(thing), False, thing)

    def test_reserved_words_are_no_names(self):
        for word in RESERVED:
            self.assertIs(is_name(word), False, word)


if __name__ == "__main__":
    unittest.main()
