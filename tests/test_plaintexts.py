"""Plain values and their texts."""

import unittest
from random import Random

from swornlots.errors import BadText
from swornlots.plaintexts import read_plain, write_plain

SIGNS = "(a0-1 9z)bye nosA.\n_"


def nested(depth, inner=()):
    for _ in range(depth):
        inner = (inner,)
    return inner


def is_beginning(text, memo={}):
    """Whether the text is the beginning of the text of a plain value, by trying how it could go on."""
    if text not in memo:
        memo[text] = any(is_text(text + more) for more in ENDS) or any(is_text(text + ")" * many) or is_text(text + "a" + ")" * many) or is_text(text + "1" + ")" * many) for many in range(1, 9))
    return memo[text]


def is_text(text):
    """Whether the text is that of a plain value: what is read of it in another way is written as it is."""
    value, rest = parse(text)
    return rest == "" and value is not NOTHING


ENDS = ("", "a", "1", ")")
NOTHING = object()


def parse(text):
    """A value and the rest of the text, with signs taken in the widest way; NOTHING if there is none."""
    if text.startswith("("):
        items, rest = [], text[1:]
        if rest.startswith(")"):
            return (), rest[1:]
        while True:
            item, rest = parse(rest)
            if item is NOTHING:
                return NOTHING, rest
            items.append(item)
            if rest.startswith(")"):
                return tuple(items), rest[1:]
            if not rest.startswith(" "):
                return NOTHING, rest
            rest = rest[1:]
    k = 0
    while k < len(text) and text[k] not in "() ":
        k += 1
    word, rest = text[:k], text[k:]
    letters = "abcdefghijklmnopqrstuvwxyz"
    digits = "0123456789"
    if word in ("yes", "no", "none"):
        return {"yes": True, "no": False, "none": None}[word], rest
    if word == "-":
        return "", rest
    if word and word[0] in letters and len(word) <= 12 and all(sign in letters + digits for sign in word):
        return word, rest
    body = word[1:] if word.startswith("-") else word
    if body and all(sign in digits for sign in body) and (body == word == "0" or body[0] != "0"):
        return int(word), rest
    return NOTHING, rest


class Texts(unittest.TestCase):
    def test_each_kind(self):
        for value, text in [
            ("", "-"), ("a", "a"), ("z9", "z9"), ("abcdefghijkl", "abcdefghijkl"), ("yess", "yess"), ("nos", "nos"), ("nonee", "nonee"), ("ye", "ye"), ("n", "n"),
            (0, "0"), (7, "7"), (-7, "-7"), (10, "10"), (-10, "-10"), (10 ** 40, "1" + "0" * 40), (True, "yes"), (False, "no"), (None, "none"), ((), "()"), ((1,), "(1)"),
            (("",), "(-)"), (("", ""), "(- -)"), ((-1, ""), "(-1 -)"), (((), ()), "(() ())"), ((True, (False, None), "a"), "(yes (no none) a)"), ((1, 2, 3), "(1 2 3)"),
            (("do", ("take", "l1", "kettle", 30)), "(do (take l1 kettle 30))"), (("days", "", "l1", -3), "(days - l1 -3)"), (("take",), "(take)"),
        ]:
            with self.subTest(text=text):
                self.assertEqual(write_plain(value), text)
                told = read_plain(text)
                self.assertEqual(told, value)
                self.assertIs(type(told), type(value))

    def test_true_is_no_integer(self):
        self.assertIs(read_plain("(yes 1)")[0], True)
        self.assertIs(type(read_plain("(yes 1)")[1]), int)
        self.assertIs(read_plain("no"), False)

    def test_depth(self):
        for depth in range(60):
            value = nested(depth)
            self.assertEqual(write_plain(value), "(" * (depth + 1) + ")" * (depth + 1))
            self.assertEqual(read_plain(write_plain(value)), value)
        wide = nested(59, (1, "a"))
        self.assertEqual(read_plain(write_plain(wide)), wide)
        self.refused("(" * 61 + ")" * 61, 60)
        self.refused("(" * 70, 60)
        self.refused("(" * 60, 60)
        self.refused("(a (" + "(" * 58 + ") " + "(" * 70, 4 + 58 + 2 + 1)
        self.refused("(1 " + "(" * 60, 3 + 59)

    def test_long_integers(self):
        for sign in ("", "-"):
            text = sign + "7" * 4000
            self.assertEqual(write_plain(read_plain(text)), text)
            self.refused(text + "7", len(text))
            self.refused("(a " + text + "77 b)", 3 + len(text))

    def refused(self, text, place):
        with self.subTest(text=text[:80]):
            with self.assertRaises(BadText) as caught:
                read_plain(text)
            self.assertEqual(caught.exception.place, place)

    def test_bad_signs(self):
        for text, place in [
            (" ", 0), (")", 0), ("A", 0), ("_", 0), (".", 0), ("\n", 0), ("aA", 1), ("a_b", 1), ("a b", 1), ("a)", 1), ("a(", 1), ("a ", 1), ("a-", 1), ("abcdefghijklm", 12), ("a23456789012x", 12),
            ("00", 1), ("01", 1), ("-0", 1), ("-01", 1), ("--", 1), ("-a", 1), ("- ", 1), ("-)", 1), ("1a", 1), ("1-", 1), ("1.0", 1), ("12 ", 2), ("+1", 0), ("1_0", 1),
            ("( )", 1), ("( a)", 1), ("(a )", 3), ("(a  b)", 3), ("(a,b)", 2), ("(a)b", 3), ("(a) ", 3), ("(a))", 3), ("()()", 2), ("(()())", 3), ("((a)b)", 4), ("(-0)", 2), ("(00)", 2), ("(--)", 2),
            ("yes no", 3), ("yes)", 3), ("(yes,)", 4), ("none ", 4), ("é", 0), ("a\u0660", 1), ("1\u0660", 1), ("\t", 0), ("(a\nb)", 2),
        ]:
            self.refused(text, place)

    def test_texts_that_end_too_early(self):
        for text in ["", "(", "(a", "(a ", "((", "(()", "(() ", "(-", "(1", "(yes", "(a (b) c", "(" * 60]:
            self.refused(text, len(text))

    def test_all_short_texts(self):
        """Every text of up to 4 signs of some, held against another reading."""
        random = Random(8)
        texts = {""}
        for _ in range(4000):
            texts.add("".join(random.choice(SIGNS) for _ in range(random.randint(1, 6))))
        good = 0
        for text in texts:
            if is_text(text):
                good += 1
                self.assertEqual(read_plain(text), parse(text)[0])
                self.assertEqual(write_plain(read_plain(text)), text)
            else:
                place = next((k for k in range(len(text)) if not is_beginning(text[:k + 1])), len(text))
                self.refused(text, place)
        self.assertGreater(good, 100)

    def test_random_values(self):
        random = Random(9)

        def value(depth):
            kind = random.random()
            if depth and kind < 0.5:
                return tuple(value(depth - 1) for _ in range(random.randint(0, 4)))
            return random.choice(["", "a", "word9", True, False, None, 0, -5, 12345, 10 ** 39, -10 ** 39])

        for _ in range(500):
            told = value(5)
            text = write_plain(told)
            self.assertIsInstance(text, str)
            self.assertEqual(repr(read_plain(text)), repr(told))
            cut = random.randint(0, len(text))
            if text[cut:] and not is_text(text[:cut]):
                self.refused(text[:cut], cut)


if __name__ == "__main__":
    unittest.main()
