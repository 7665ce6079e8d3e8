"""The texts of claims."""

import unittest
from itertools import product
from random import Random

from swornlots.claimtexts import read_claim, write_claim
from swornlots.errors import BadClaim, NoClaim
from swornlots.forms import RESERVED

FREE, SOY, ONE = ("free", "nuts"), ("untouched", "soy"), ("single",)


def random_claim(random, depth=4, traits=("nuts", "soy"), farms=("east", "west")):
    kind = random.random()
    if depth == 0 or kind < 0.35:
        word = random.choice("free untouched least most since until single".split())
        if word in ("free", "untouched"):
            return (word, random.choice(traits))
        if word in ("least", "most"):
            share = random.choice([(0, 1), (1, 4), (1, 2), (3, 4), (1, 1)])
            return (word, share, tuple(sorted(random.sample(farms, random.randint(1, len(farms))))))
        if word in ("since", "until"):
            return (word, random.randint(0, 4))
        return (word,)
    if kind < 0.5:
        return ("not", random_claim(random, depth - 1, traits, farms))
    return (random.choice(["and", "or"]), random_claim(random, depth - 1, traits, farms), random_claim(random, depth - 1, traits, farms))


class Reading(unittest.TestCase):
    def test_forms(self):
        for text, tree in [
            ("free nuts", FREE), ("untouched soy", SOY), ("single", ONE), ("since 0", ("since", 0)), ("until 99999", ("until", 99999)), ("since 7", ("since", 7)),
            ("least 3/5 of east", ("least", (3, 5), ("east",))), ("most 0/1 of west east", ("most", (0, 1), ("east", "west"))),
            ("least 6/8 of c b a", ("least", (3, 4), ("a", "b", "c"))), ("most 0/999999999 of a", ("most", (0, 1), ("a",))),
            ("least 999999999/999999999 of a", ("least", (1, 1), ("a",))), ("least 1/999999999 of a9", ("least", (1, 999999999), ("a9",))),
            ("not single", ("not", ONE)), ("not not single", ("not", ("not", ONE))), ("( single )", ONE), ("( ( ( single ) ) )", ONE),
            ("free nuts and untouched soy and single", ("and", ("and", FREE, SOY), ONE)), ("free nuts or untouched soy or single", ("or", ("or", FREE, SOY), ONE)),
            ("free nuts or untouched soy and single", ("or", FREE, ("and", SOY, ONE))), ("free nuts and untouched soy or single", ("or", ("and", FREE, SOY), ONE)),
            ("free nuts and ( untouched soy or single )", ("and", FREE, ("or", SOY, ONE))), ("free nuts and ( untouched soy and single )", ("and", FREE, ("and", SOY, ONE))),
            ("( free nuts or untouched soy ) and single", ("and", ("or", FREE, SOY), ONE)), ("not free nuts and single", ("and", ("not", FREE), ONE)),
            ("not ( free nuts and single )", ("not", ("and", FREE, ONE))), ("not ( not ( single ) or single )", ("not", ("or", ("not", ONE), ONE))),
            ("least 1/2 of east west and single", ("and", ("least", (1, 2), ("east", "west")), ONE)),
            ("( least 1/2 of east ) or single", ("or", ("least", (1, 2), ("east",)), ONE)), ("( ( single or single ) and not ( single ) )", ("and", ("or", ONE, ONE), ("not", ONE))),
        ]:
            with self.subTest(text=text):
                self.assertEqual(read_claim(text), tree)

    def refused(self, text, word):
        with self.subTest(text=text):
            with self.assertRaises(BadClaim) as caught:
                read_claim(text)
            self.assertEqual(caught.exception.word, word)

    def test_bad_words(self):
        for text, word in [
            ("", 1), (" ", 1), (" single", 1), ("single ", 2), ("single  and single", 2), ("single and  single", 3), ("free  nuts", 2), ("free nuts ", 3),
            ("free", 2), ("untouched", 2), ("least", 2), ("least 1/2", 3), ("least 1/2 of", 4), ("since", 2), ("until", 2), ("not", 2), ("(", 2), ("( single", 3),
            ("( ( single )", 5), ("single and", 3), ("single or", 3), ("single and not", 4), ("single and (", 4), ("not not", 3), ("single )", 2), ("( single ) )", 4),
            (")", 1), ("( )", 2), ("and", 1), ("or single", 1), ("of", 1), ("nuts", 1), ("FREE nuts", 1), ("single single", 2), ("single not single", 2),
            ("single ( single )", 2), ("single and or single", 3), ("single and and", 3), ("not and", 2), ("( or", 2), ("free not", 2), ("free free", 2), ("free Nuts", 2),
            ("free 1", 2), ("free nutsnutsn", 2), ("free nuts soy", 3), ("free nuts not", 3), ("free (", 2), ("untouched recipe", 2), ("untouched none", 2),
            ("least 1/2 of east east", 5), ("least 1/2 of east west east", 6), ("least 1/2 of east east and", 5), ("least 1/2 of of", 4), ("least 1/2 of and", 4),
            ("least 1/2 of east 1", 5), ("least 1/2 of east of", 5), ("least 1/2 of east single", 5), ("least 1/2 of east (", 5), ("least 1/2 of east )", 5),
            ("least 1/2 of east ", 5), ("least 1/2 east", 3), ("least of east", 2), ("least 3/2 of east", 2), ("least 1/0 of east", 2), ("least 0/0 of east", 2),
            ("least 1 of east", 2), ("least 1/ of east", 2), ("least /2 of east", 2), ("least 1/2/3 of east", 2), ("least 1//2 of east", 2), ("least -1/2 of east", 2),
            ("least 01/2 of east", 2), ("least 1/02 of east", 2), ("least 00/1 of east", 2), ("least 1/1000000000 of east", 2), ("least 1000000000/1 of east", 2),
            ("least 1.5/2 of east", 2), ("least 1 / 2 of east", 2), ("least a/b of east", 2), ("most +1/2 of east", 2), ("most 1/2\n of east", 2), ("since 100000", 2),
            ("since 007", 2), ("since 00", 2), ("since -1", 2), ("since 1/2", 2), ("since day", 2), ("until 1000000000", 2), ("until  7", 2), ("until 7 8", 3),
            ("single 7", 2), ("single nuts", 2), ("( single and single ) single", 6), ("( single or single ) )", 6), ("not ( single", 4), ("not ( single and", 5),
            ("single\tand single", 1), ("single\n", 1), ("free nuts\n", 2), ("single and  ", 3),
        ]:
            self.refused(text, word)
        for word in RESERVED:
            self.refused("free " + word, 2)
            self.refused("least 1/1 of " + word, 4)
            if word not in ("and", "or"):
                self.refused("most 1/1 of a " + word, 5)
                self.refused("single " + word, 2)
            if word not in ("not", "free", "untouched", "least", "most", "since", "until", "single"):
                self.refused(word, 1)
                self.refused("single and " + word, 3)

    def test_brackets_in_many_numbers(self):
        self.assertEqual(read_claim("( " * 59 + "single" + " )" * 59), ONE)
        self.refused("( " * 119 + "(", 121)
        self.refused("( " * 60 + "single" + " )" * 59, 121)
        self.refused("( " * 59 + "single" + " )" * 60, 120)

    def test_first_word_that_cannot_stand(self):
        """All rows of a few words: the words ahead of the told one are the beginning of a text, with it they are none."""
        words = ("and", "or", "not", "free", "least", "single", "since", "of", "(", ")", "1/2", "3", "nuts", "east", "")

        def told(row):
            try:
                read_claim(" ".join(row))
            except BadClaim as error:
                return error.word
            return None

        # What completes a beginning, by brackets and what is missing behind the last word.
        ends = [tail.split() for tail in ("single", "nuts", "1/2 of east", "of east", "east", "3", "")]

        def is_beginning(row):
            depth = max(0, row.count("(") - row.count(")"))
            return any(told([*row, *end, *[")"] * depth]) is None for end in ends)

        for many in range(1, 4):
            for row in product(words, repeat=many):
                bad = told(row)
                if bad is None:
                    continue
                self.assertTrue(1 <= bad <= many + 1)
                if bad > 1:
                    self.assertTrue(is_beginning(row[:bad - 1]), row)
                if bad <= many:
                    self.assertFalse(is_beginning(row[:bad]), row)


class Writing(unittest.TestCase):
    def test_forms(self):
        for tree, text in [
            (FREE, "free nuts"), (SOY, "untouched soy"), (ONE, "single"), (("since", 0), "since 0"), (("until", 99999), "until 99999"),
            (("least", (3, 5), ("east", "west")), "least 3/5 of east west"), (("most", (0, 1), ("a",)), "most 0/1 of a"), (("not", ONE), "not single"),
            (("not", ("not", ONE)), "not not single"), (("not", ("and", FREE, ONE)), "not ( free nuts and single )"), (("not", ("or", FREE, ONE)), "not ( free nuts or single )"),
            (("and", ("and", FREE, SOY), ONE), "free nuts and untouched soy and single"), (("and", FREE, ("and", SOY, ONE)), "free nuts and ( untouched soy and single )"),
            (("or", ("or", FREE, SOY), ONE), "free nuts or untouched soy or single"), (("or", FREE, ("or", SOY, ONE)), "free nuts or ( untouched soy or single )"),
            (("or", ("and", FREE, SOY), ("and", SOY, ONE)), "free nuts and untouched soy or untouched soy and single"),
            (("and", ("or", FREE, SOY), ("or", SOY, ONE)), "( free nuts or untouched soy ) and ( untouched soy or single )"),
            (("and", ("not", ("or", FREE, SOY)), ("not", ONE)), "not ( free nuts or untouched soy ) and not single"),
        ]:
            with self.subTest(text=text):
                self.assertEqual(write_claim(tree), text)
                self.assertEqual(read_claim(text), tree)

    def test_random(self):
        random = Random(30)
        for _ in range(1500):
            tree = random_claim(random)
            text = write_claim(tree)
            self.assertEqual(read_claim(text), tree)
            self.fewest_brackets(text, tree)

    def fewest_brackets(self, text, tree):
        """No pair of brackets can be left out, or the text reads as another claim."""
        words = text.split(" ")
        for k, word in enumerate(words):
            if word == "(":
                depth, end = 0, k
                while end == k or depth:
                    depth += {"(": 1, ")": -1}.get(words[end], 0)
                    end += 1
                left = words[:k] + words[k + 1:end - 1] + words[end:]
                self.assertNotEqual(read_claim(" ".join(left)), tree)

    def test_other_texts(self):
        for text, least in [("least 2/4 of west east", "least 1/2 of east west"), ("( ( single ) )", "single"), ("( free nuts ) and ( not ( single ) )", "free nuts and not single"),
                            ("( single and single ) and single", "single and single and single"), ("single or ( single and single )", "single or single and single")]:
            self.assertEqual(write_claim(read_claim(text)), least)

    def test_no_claim(self):
        for bad in [None, (), "single", ("single", 1), ("free", "or"), ("and", ONE), ["single"], ("least", (2, 4), ("a",)), ("since", True)]:
            with self.assertRaises(NoClaim) as caught:
                write_claim(bad)
            self.assertEqual(caught.exception.claim, bad)


if __name__ == "__main__":
    unittest.main()
