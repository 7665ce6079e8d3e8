"""The texts of recipes."""

import unittest
from random import Random

from cooking import plant_with, random_recipe
from swornlots.errors import BadLine
from swornlots.forms import RESERVED
from swornlots.recipes import Recipe
from swornlots.scripts import read_recipe, write_recipe

LINES = (
    "recipe s t", "take s kettle 30", "repeat 20", "when pot", "move kettle pot 10000", "else", "wash pot", "end", "pack kettle 5", "end",
    "when kettle", "else", "drain kettle", "end", "when of1", "take t of1 1", "end", "done",
)
RECIPE = Recipe(("s", "t"), (
    ("take", "s", "kettle", 30), ("repeat", 20, (("when", "pot", (("move", "kettle", "pot", 10000),), (("wash", "pot"),)), ("pack", "kettle", 5))),
    ("when", "kettle", (), (("drain", "kettle"),)), ("when", "of1", (("take", "t", "of1", 1),), ())))
WORDS = ["", "recipe", "take", "move", "drain", "wash", "pack", "repeat", "when", "else", "end", "done", "part", "s", "t", "u", "kettle", "pot", "of", "Pot", "0", "1", "20", "21",
         "10000", "10001", "01", "1.", "-1", "1000000000", "s ", "sever"]


class Texts(unittest.TestCase):
    def test_written_and_read(self):
        self.assertEqual(write_recipe(RECIPE), list(LINES))
        for kind in (list, tuple):
            self.assertTrue(read_recipe(kind(LINES)) == RECIPE)

    def test_without_slots(self):
        recipe = Recipe((), (("drain", "pot"),))
        self.assertEqual(write_recipe(recipe), ["recipe", "drain pot", "done"])
        self.assertTrue(read_recipe(["recipe", "drain pot", "done"]) == recipe)

    def test_random_ones(self):
        random = Random(4)
        plant = plant_with()
        for _ in range(300):
            recipe = random_recipe(random, plant)
            lines = write_recipe(recipe)
            self.assertIsInstance(lines, list)
            again = read_recipe(lines)
            self.assertTrue(again == recipe)
            self.assertEqual(write_recipe(again), lines)

    def refused(self, lines, line, place):
        with self.subTest(lines=lines):
            with self.assertRaises(BadLine) as caught:
                read_recipe(lines)
            self.assertEqual((caught.exception.line, caught.exception.place), (line, place))

    def test_lines_too_few(self):
        for many in range(len(LINES)):
            self.refused(LINES[:many], many + 1, 1)

    def test_lines_too_many(self):
        for more in ("", "done", "drain pot", "recipe s"):
            self.refused([*LINES, more], len(LINES) + 1, 1)
            self.refused([*LINES, more, more], len(LINES) + 1, 1)

    def test_words_too_many(self):
        for number, line in enumerate(LINES[1:], 1):
            for more in ("", "1", "s", "end"):
                lines = list(LINES)
                lines[number] = f"{line} {more}"
                self.refused(lines, number + 1, len(line.split(" ")) + 1)

    def test_lines_that_end_too_early(self):
        for number, line in enumerate(LINES):
            words = line.split(" ")
            for many in range(1, len(words)):
                if number == 0:
                    continue
                lines = list(LINES)
                lines[number] = " ".join(words[:many])
                self.refused(lines, number + 1, many + 1)
            lines = list(LINES)
            lines[number] = ""
            self.refused(lines, number + 1, 1)
            lines[number] = " " + line
            self.refused(lines, number + 1, 1)

    def test_head(self):
        tail = ["drain pot", "done"]
        for head, place in [("", 1), ("Recipe", 1), ("drain pot", 1), ("recipe ", 2), ("recipe s s", 3), ("recipe s  t", 3), ("recipe a b c d e", 6), ("recipe take", 2), ("recipe 1", 2),
                            ("recipe a b c d ", 6), ("recipe s done", 3), ("recipe s S", 3), ("recipe s toolongname", 3), (" recipe", 1), ("recipe\ts", 1), ("done", 1)]:
            self.refused([head, *tail], 1, place)
        read_recipe(["recipe a b c d", *tail])

    def test_words_of_every_kind(self):
        """Each word of a line is exchanged by each of many words: it can stand exactly if the reading says so."""
        good = {
            "take s kettle 30": [{"take"}, {"s", "t"}, {"s", "t", "u", "kettle", "pot", "sever", "part"}, {"1", "20", "21", "10000"}],
            "move kettle pot 7": [{"move"}, {"s", "t", "u", "kettle", "sever", "part"}, {"s", "t", "u", "pot", "sever", "part"}, {"1", "20", "21", "10000"}],
            "pack kettle 5": [{"pack"}, {"s", "t", "u", "kettle", "pot", "sever", "part"}, {"1", "20", "21", "10000"}],
            "drain kettle": [{"drain", "wash"}, {"s", "t", "u", "kettle", "pot", "sever", "part"}],
            "wash kettle": [{"drain", "wash"}, {"s", "t", "u", "kettle", "pot", "sever", "part"}],
        }
        for line, kinds in good.items():
            words = line.split(" ")
            for place, kind in enumerate(kinds):
                for word in WORDS:
                    if " " in word:
                        continue
                    text = " ".join([*words[:place], word, *words[place + 1:]])
                    lines = ["recipe s t", text, "done"]
                    if place == 1 and words[0] == "move" and word == "pot":
                        # Then the second one cannot stand.
                        self.refused(lines, 2, 3)
                    elif word in kind:
                        self.assertEqual(write_recipe(read_recipe(lines)), lines)
                    elif place > 0:
                        self.refused(lines, 2, place + 1)

    def test_first_words_of_lines(self):
        for before, allowed in [
            (["recipe s"], {"take", "move", "drain", "wash", "pack", "repeat", "when"}),
            (["recipe"], {"move", "drain", "wash", "pack", "repeat", "when"}),
            (["recipe", "drain a"], {"move", "drain", "wash", "pack", "repeat", "when", "done"}),
            (["recipe", "repeat 2"], {"move", "drain", "wash", "pack", "repeat", "when"}),
            (["recipe", "repeat 2", "drain a"], {"move", "drain", "wash", "pack", "repeat", "when", "end"}),
            (["recipe", "repeat 2", "drain a", "end"], {"move", "drain", "wash", "pack", "repeat", "when", "done"}),
            (["recipe", "when a"], {"move", "drain", "wash", "pack", "repeat", "when", "else"}),
            (["recipe", "when a", "drain a"], {"move", "drain", "wash", "pack", "repeat", "when", "else", "end"}),
            (["recipe", "when a", "else"], {"move", "drain", "wash", "pack", "repeat", "when"}),
            (["recipe", "when a", "drain a", "else"], {"move", "drain", "wash", "pack", "repeat", "when"}),
            (["recipe", "when a", "drain a", "else", "drain a"], {"move", "drain", "wash", "pack", "repeat", "when", "end"}),
            (["recipe", "when a", "drain a", "else", "drain a", "end"], {"move", "drain", "wash", "pack", "repeat", "when", "done"}),
            (["recipe", "when a", "repeat 2", "drain a"], {"move", "drain", "wash", "pack", "repeat", "when", "end"}),
            (["recipe", "repeat 2", "repeat 2", "when a", "drain a"], {"move", "drain", "wash", "pack", "else", "end"}),
            (["recipe", "repeat 2", "repeat 2", "repeat 2"], {"move", "drain", "wash", "pack"}),
            (["recipe"] + ["drain a"] * 39, {"move", "drain", "wash", "pack", "done"}),
            (["recipe"] + ["drain a"] * 38, {"move", "drain", "wash", "pack", "repeat", "when", "done"}),
            (["recipe"] + ["drain a"] * 40, {"done"}),
            (["recipe"] + ["drain a"] * 38 + ["when a"], {"move", "drain", "wash", "pack", "else"}),
            (["recipe"] + ["drain a"] * 38 + ["when a", "else"], {"move", "drain", "wash", "pack"}),
            (["recipe"] + ["drain a"] * 38 + ["when a", "drain a"], {"end"}),
            (["recipe"] + ["drain a"] * 38 + ["when a", "else", "drain a"], {"end"}),
            (["recipe"] + ["drain a"] * 37 + ["when a", "drain a"], {"move", "drain", "wash", "pack", "else", "end"}),
            (["recipe"] + ["drain a"] * 37 + ["repeat 2", "when a"], {"move", "drain", "wash", "pack", "else"}),
            (["recipe"] + ["drain a"] * 38 + ["repeat 2"], {"move", "drain", "wash", "pack"}),
        ]:
            for word in WORDS:
                if " " in word:
                    continue
                if word not in allowed:
                    self.refused([*before, word], len(before) + 1, 1)
                    self.refused([*before, f"{word} a b"], len(before) + 1, 1)
                elif word in ("else", "end"):
                    self.refused([*before, word], len(before) + 2, 1)
                elif word == "done":
                    read_recipe([*before, word])
                else:
                    self.refused([*before, word], len(before) + 1, 2)

    def test_40_steps(self):
        head = ["recipe"] + ["drain a"] * 38
        self.assertEqual(len(read_recipe(head + ["drain a", "drain a", "done"]).steps), 40)
        self.assertEqual(read_recipe(head + ["repeat 2", "drain a", "end", "done"]).steps[-1], ("repeat", 2, (("drain", "a"),)))
        self.assertEqual(read_recipe(head + ["when b", "else", "drain a", "end", "done"]).steps[-1], ("when", "b", (), (("drain", "a"),)))
        self.refused(head + ["drain a", "drain a", "drain a", "done"], 42, 1)
        self.refused(head + ["drain a", "repeat 2"], 41, 1)
        self.refused(head + ["when b", "drain a", "else"], 42, 1)

    def test_repeat_and_when(self):
        for text, place in [("repeat", 2), ("repeat 0", 2), ("repeat 21", 2), ("repeat x", 2), ("repeat 02", 2), ("repeat 2 2", 3), ("repeat  2", 2), ("when", 2), ("when 2", 2), ("when Pot", 2),
                            ("when pot pot", 3), ("when of", 2), ("when pot ", 3)]:
            self.refused(["recipe", text, "drain a", "end", "done"], 2, place)
        for text, place in [("else ", 2), ("else drain", 2), ("end ", 2), ("end end", 2)]:
            self.refused(["recipe", "when a", "drain a", text], 4, place)

    def test_reserved_words_are_no_names(self):
        for word in RESERVED:
            self.refused(["recipe", f"drain {word}", "done"], 2, 2)
            self.refused([f"recipe s {word}", "drain a", "done"], 1, 3)


if __name__ == "__main__":
    unittest.main()
