"""Rows of runs that break plain claims, and closed tables."""

import time
import unittest
from random import Random

from buffet import BOWLS, all_rows, breaks, fill, pour, random_menu, random_plain, run_again
from cooking import outcome, plant_with
from swornlots.dirts import dirts, first_dirt, run_in, runs_from
from swornlots.menus import Menu
from swornlots.recipes import Recipe
from swornlots.twins import compare_menus
from swornlots.walking import Walk, judge_table, walk

PLANT = plant_with(BOWLS)
FREE, CLEAN = ("free", "nuts"), ("untouched", "nuts")
FILL, POUR = Recipe(("s",), fill("a")), Recipe(("s",), pour("a", "b"))
NUTLESS, ALL, WASH = (FILL, (("nuts",),)), (FILL, ((),)), (Recipe((), (("wash", "a"),)), ())


def shorter_rows(menu, length):
    """All rows of runs up to this length, with the dirt ahead of the last run."""
    rows = [((), first_dirt(menu.plant))]
    for _ in range(length):
        longer = []
        for row, dirt in rows:
            for entry in range(len(menu)):
                told = run_again(menu, entry, dirt)
                if told is not None:
                    yield (*row, entry), dirt, told[0]
                    longer.append(((*row, entry), told[1]))
        rows = longer


class Walks(unittest.TestCase):
    def held(self, menu, claim):
        """The row and the box of a walk that is held against [45]."""
        told = walk(menu, claim)
        self.assertIsInstance(told, Walk)
        if not told:
            self.assertIs(bool(told), False)
            self.assertEqual((told.row, told.box), (None, None))
            self.assertIsInstance(told.table, tuple)
            self.assertIsNone(judge_table(menu, claim, told.table))
            self.assertIn(first_dirt(menu.plant), told.table)
            for dirt in told.table:
                for entry in range(len(menu)):
                    found = run_again(menu, entry, dirt)
                    if found is not None:
                        self.assertIn(found[1], told.table)
                        self.assertFalse(any(breaks(claim, *box[1:]) for box in found[0]))
            return None
        self.assertIsNone(told.table)
        dirt = first_dirt(menu.plant)
        for entry in told.row:
            boxes, dirt = run_again(menu, entry, dirt)
        self.assertEqual(told.box, [breaks(claim, *box[1:]) for box in boxes].index(True))
        if len(told.row) <= 4:
            breaking = [row for row, _, boxes in shorter_rows(menu, len(told.row)) if any(breaks(claim, *box[1:]) for box in boxes)]
            self.assertEqual(told.row, min(breaking, key=lambda row: (len(row), row)))
        else:
            rows = all_rows(menu)
            least = min((len(row), row, entry) for dirt, row in rows.items() for entry in range(len(menu))
                        if run_again(menu, entry, dirt) and any(breaks(claim, *box[1:]) for box in run_again(menu, entry, dirt)[0]))
            self.assertEqual(told.row, (*least[1], least[2]))
        return (told.row, told.box)

    def test_small_ones(self):
        self.assertIsNone(self.held(Menu(PLANT, [NUTLESS]), FREE))
        self.assertEqual(self.held(Menu(PLANT, [NUTLESS, ALL]), FREE), ((1,), 0))
        self.assertEqual(self.held(Menu(PLANT, [ALL, NUTLESS]), ("or", FREE, ("free", "soy"))), ((0,), 0))
        twice = Recipe(("s",), (("take", "s", "a", 30), ("pack", "a", 5), ("pack", "a", 5), ("drain", "a")))
        mixed = Recipe(("s", "t"), (("take", "s", "a", 30), ("pack", "a", 5), ("take", "t", "a", 9), ("pack", "a", 5), ("drain", "a")))
        self.assertEqual(self.held(Menu(PLANT, [(mixed, (("nuts",), ()))]), FREE), ((0,), 1))
        silent = Recipe(("s",), (("take", "s", "a", 10),))
        # The nuts come in without a box, and go out with the next one.
        self.assertEqual(self.held(Menu(PLANT, [NUTLESS, (silent, ((),)), WASH]), FREE), ((1, 0), 0))
        self.assertEqual(self.held(Menu(PLANT, [(twice, (("nuts",),)), (Recipe(("s",), (("take", "s", "b", 5), ("drain", "b"))), ((),)), (POUR, (("nuts",),))]), CLEAN), ((1, 2), 0))
        self.assertIsNone(self.held(Menu(PLANT, [(twice, (("nuts",),)), (Recipe(("s",), (("take", "s", "b", 5), ("drain", "b"))), ((),)), (POUR, (("nuts",),))]), FREE))

    def test_nothing_can_be_run(self):
        menu = Menu(PLANT, [(Recipe((), (("drain", "bowl"),)), ())])
        told = walk(menu, FREE)
        self.assertEqual(told.table, ((None, None),))
        self.assertIsNone(judge_table(menu, FREE, [(None, None)]))

    def test_random_ones(self):
        random = Random(4)
        found = {}
        for _ in range(300):
            menu = random_menu(random, plant_with(BOWLS, farms=1, traits=2))
            told = self.held(menu, random_plain(random, menu.plant))
            key = None if told is None else len(told[0])
            found[key] = found.get(key, 0) + 1
        self.assertTrue({None, 1, 2} <= set(found), found)

    def test_errors(self):
        menu = Menu(PLANT, [NUTLESS])
        for claim, told in [(None, ("NoClaim", None)), (("free",), ("NoClaim", ("free",))), (("and", ("single",), ("free", "egg")), ("Unknown", "egg")), (("and", FREE, ("since", 1)), ("Unplain", "since"))]:
            self.assertEqual(outcome(lambda: walk(menu, claim)), told)
            self.assertEqual(outcome(lambda: judge_table(menu, claim, None)), told)


class Tables(unittest.TestCase):
    def setUp(self):
        self.menu = Menu(PLANT, [(POUR, (("nuts",),)), NUTLESS, WASH])
        self.table = walk(self.menu, CLEAN).table

    def test_one_missing(self):
        self.assertIsNone(judge_table(self.menu, CLEAN, self.table))
        self.assertIsNone(judge_table(self.menu, CLEAN, list(reversed(self.table))))
        self.assertIsNone(judge_table(self.menu, CLEAN, self.table * 2))
        self.assertGreater(len(self.table), 3)
        for k, missing in enumerate(self.table):
            table = [*self.table[:k], *self.table[k + 1:]]
            told = judge_table(self.menu, CLEAN, table)
            if missing == (None, None):
                self.assertEqual(told, ("first",))
                continue
            leaving = [(n, entry) for n, dirt in enumerate(table) for entry in runs_from(self.menu, dirt) if run_in(self.menu, entry, dirt)[1] == missing]
            self.assertEqual(told, ("leave", *leaving[0]))
        self.assertEqual(judge_table(self.menu, CLEAN, ()), ("first",))

    def test_breaking(self):
        dirty = ((("nuts",), ("nuts",)), None)
        table = [*self.table[:2], dirty, *self.table[2:]]
        self.assertEqual(judge_table(self.menu, CLEAN, table), ("break", 2, 0))
        # An entry that both breaks and leads out.
        menu = Menu(PLANT, [NUTLESS, ALL])
        self.assertEqual(judge_table(menu, FREE, [(None, None)]), ("leave", 0, 0))
        table = [(None, None), ((("soy",), ("soy",)), None)]
        self.assertEqual(judge_table(menu, FREE, table), ("break", 0, 1))
        menu = Menu(PLANT, [ALL, NUTLESS])
        self.assertEqual(judge_table(menu, FREE, [(None, None)]), ("break", 0, 0))
        self.assertEqual(judge_table(menu, FREE, []), ("first",))

    def test_one_more(self):
        """A dirt that cannot be come to must be closed, too."""
        more = (None, ((), ("nuts",)))
        told = judge_table(self.menu, CLEAN, [*self.table, more])
        self.assertEqual(told[:2], ("break", len(self.table)))
        more = (None, ((), ()))
        self.assertIsNone(judge_table(Menu(PLANT, [WASH]), CLEAN, [(None, None), more]))
        self.assertEqual(judge_table(Menu(PLANT, [NUTLESS]), CLEAN, [more, (None, None), ((("soy",), ("soy",)), None)]), ("leave", 0, 0))

    def test_values_of_any_kind(self):
        for table in [None, 7, "first", {}, (), [], [None], [()], [[None, None]], ["(None, None)"], [(None,)], [(None, None, None)], [(False, False)], [(None, ())]]:
            self.assertEqual(judge_table(self.menu, CLEAN, table), ("first",))
        junk = [None, 7, "x", (), [], [None, None], {}, (None,), (None, None, None), (None, 7), (None, ((), ("egg",))), (None, (["nuts"], [])), (None, (("soy", "nuts"), ())), (None, ((), (), ())),
                (None, ("nuts", "nuts")), (True, None), {"a": 1}]
        # What is no dirt is no dirt of the table; the numbers are those in all of it.
        self.assertIsNone(judge_table(self.menu, CLEAN, [*junk, *self.table]))
        self.assertEqual(judge_table(self.menu, CLEAN, [*junk, (None, None)])[:2], ("leave", len(junk)))

    def test_random_changes(self):
        random = Random(5)
        for _ in range(150):
            menu = random_menu(random, plant_with(BOWLS, farms=1, traits=2))
            claim = random_plain(random, menu.plant)
            table = list(dirts(menu))
            random.shuffle(table)
            kind = random.random()
            if kind < 0.4 and len(table) > 1:
                table.pop(random.randrange(len(table)))
            elif kind < 0.6:
                table.insert(0, (None, ((), random.choice([(), ("nuts",), ("nuts", "soy")]))))
            told = judge_table(menu, claim, table)
            expected = None
            if (None, None) not in table:
                expected = ("first",)
            for n, dirt in enumerate(table):
                for entry in range(len(menu)):
                    found = run_again(menu, entry, dirt)
                    if expected is None and found is not None:
                        if any(breaks(claim, *box[1:]) for box in found[0]):
                            expected = ("break", n, entry)
                        elif found[1] not in table:
                            expected = ("leave", n, entry)
            self.assertEqual(told, expected)


class Large(unittest.TestCase):
    def test_many_dirts(self):
        """Six vessels: three with five states each, one with three and two with two."""
        plant = plant_with(tuple((f"v{k}", 100, 0) for k in range(6)), traits=4)
        lacks = {"egg": ("milk", "nuts", "soy"), "milk": ("egg", "nuts", "soy"), "nuts": ("egg", "milk", "soy")}

        def more(slot, vessel):
            return (("take", slot, vessel, 2), ("pack", vessel, 1), ("drain", vessel))

        entries = []
        for k in range(6):
            here, beside = f"v{k}", f"v{(k + 1) % 6}"
            behind = {0: (("when", beside, more("t", here), more("u", here)),), 1: more("t", here), 2: ()}[max(0, k - 2) if k < 5 else 2]
            entries.append((Recipe(("s", "t", "u"), (("when", here, more("s", here), behind),)), (lacks["egg"], lacks["milk"], lacks["nuts"])))
        menu = Menu(plant, entries)
        began = time.time()
        found = list(dirts(menu))
        self.assertTrue(1000 < len(found) <= 2000, len(found))
        self.assertEqual(len(walk(menu, ("free", "soy")).table), len(found))
        clean = ("or", ("untouched", "egg"), ("or", ("untouched", "milk"), ("untouched", "nuts")))
        told = walk(menu, clean)
        self.assertEqual((len(told.row), told.box), (4, 0))
        self.assertIsNone(judge_table(menu, ("untouched", "soy"), found))
        self.assertEqual(judge_table(menu, ("untouched", "soy"), found[:-1])[0], "leave")
        self.assertTrue(compare_menus(menu, Menu(plant, entries)))
        self.assertLess(time.time() - began, 40)


if __name__ == "__main__":
    unittest.main()
