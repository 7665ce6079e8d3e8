"""The books of houses."""

import unittest
from random import Random

from cooking import outcome
from labels import FREE, kitchen, put_label, some_papers, tautology
from model import random_deed
from proving import plant_of
from swornlots.books import Book, read_book, write_book
from swornlots.cutting import cut
from swornlots.errors import LotError, NoThing, Short
from swornlots.houses import House, News
from swornlots.plaintexts import read_plain, write_plain
from swornlots.plants import Plant
from test_houses import told_by

PLANT = plant_of(2)
HEAD = "(plant (east west) (nuts soy) ((kettle 1000 10) (pot 100 0)))"
TAKE = "(do (take l1 kettle 30))"


class Writing(unittest.TestCase):
    def test_small_case(self):
        house = House(PLANT)
        self.assertEqual(write_book(house), [HEAD])
        house.do(("take", "l1", "kettle", 30))
        house.do(("pack", "kettle", "b1", 20))
        house.put_paper(("apart", "", "l1", -3))
        house.put_paper(("clause", ((("l1", "nuts"), False),)))
        house.label("b1", FREE)
        house.send("b1", "ann")
        house.amend(1, ("row", ((("l1", "east"), (1, 2)),), (1, 4)))
        house.withdraw(2)
        lines = [HEAD, TAKE, "(do (pack kettle b1 20))", "(paper (apart - l1 -3))", "(paper (clause (((l1 nuts) no))))", "(label b1 (free nuts))", "(send b1 ann)",
                 "(amend 1 (row (((l1 east) (1 2))) (1 4)))", "(withdraw 2)"]
        self.assertEqual(write_book(house), lines)
        again = read_book(lines)
        self.assertTrue(again == house)
        self.assertEqual(told_by(again), told_by(house))
        self.assertTrue(read_book(tuple(lines)) == house)

    def test_plants(self):
        for plant in [Plant(["z"], [], [("a", 1, 0)]), Plant(["d", "c", "b", "a"], ["n", "m"], [(f"v{k}", 10000, k) for k in range(6)])]:
            house = read_book(write_book(House(plant)))
            self.assertTrue(house.plant == plant)
            self.assertTrue(house == House(plant))

    def test_farms_in_any_order(self):
        house = read_book(["(plant (west east) () ((pot 5 0)))"])
        self.assertEqual(write_book(house), ["(plant (east west) () ((pot 5 0)))"])

    def test_long_numbers(self):
        house = House(PLANT)
        house.do(("take", "l1", "pot", 5))
        house.put_paper(("until", "l1", 10 ** 39))
        house.put_paper(("from", "l1", -10 ** 39))
        self.assertTrue(read_book(write_book(house)) == house)

    def test_deep_formulas(self):
        house = House(PLANT)
        house.do(("take", "l1", "pot", 5))
        formula = ("share", ((("l1", "east"), (1, 1)),), (0, 1))
        for _ in range(19):
            formula = ("and", (formula,))
        house.put_paper(("says", formula))
        short = cut(house)
        for told in (house, short):
            self.assertTrue(read_book(write_book(told)) == told)

    def test_with_an_opening(self):
        random = Random(1)
        for _ in range(25):
            house = kitchen()
            some_papers(random, house, 6)
            put_label(house, "b2", FREE)
            house.label("b1", tautology(FREE))
            house.send("b1", "ann")
            short = cut(house)
            lines = write_book(short)
            self.assertEqual(len(lines), 2)
            self.assertEqual(read_plain(lines[1]), ("opening", *short.opening))
            again = read_book(lines)
            self.assertTrue(again == short)
            self.assertEqual(told_by(again), told_by(short))
            for told in (short, again):
                told.do(("take", "l9", "pot", 5))
                told.put_paper(("until", "l9", 5))
            self.assertEqual(write_book(again), write_book(short))
            self.assertTrue(read_book(write_book(short)) == again)

    def test_random_houses(self):
        random = Random(2)
        for _ in range(30):
            house = House(PLANT)
            for _ in range(25):
                try:
                    house.do(random_deed(random, house.stock_now()))
                except LotError:
                    pass
            if house.stock_now().lot_names():
                some_papers(random, house, 8)
            again = read_book(write_book(house))
            self.assertTrue(again == house)
            self.assertEqual(told_by(again), told_by(house))


class Reading(unittest.TestCase):
    def refused(self, lines, *told):
        with self.subTest(lines=lines):
            self.assertEqual(outcome(lambda: read_book(lines)), told)
            self.assertEqual(outcome(lambda: read_book(tuple(lines))), told)

    def test_bad_lines(self):
        for text, place in [("", 0), ("(", 1), ("(do (take l1 kettle 30)", 23), ("(do  (drain pot))", 4), ("(do (drain Pot))", 11), ("(do (drain pot)) ", 16), (" ", 0), ("(withdraw 01)", 11),
                            ("(do (drain pot", 14), ("9" * 4001, 4000)]:
            self.refused([text], "BadLine", 1, place)
            self.refused([HEAD, text], "BadLine", 2, place)
            self.refused([HEAD, TAKE, TAKE, text, "("], "BadLine", 4, place)

    def test_first_lines(self):
        self.refused([], "BadAct", 1)
        for text in ["()", "plant", "7", "-", "none", "(plant)", "(plant (east) ())", "(plant (east) () ((pot 5 0)) ())", "(plants (east) () ((pot 5 0)))", "(opening () ())", TAKE, "((plant) (east) () ())", "(- (east) () ())"]:
            self.refused([text], "BadAct", 1)
            self.refused([text, "("], "BadAct", 1)
        for text in ["(plant () () ((pot 5 0)))", "(plant (east) (nuts nuts) ((pot 5 0)))", "(plant east () ((pot 5 0)))", "(plant (east) () ((pot 5 5)))", "(plant (east) () ())",
                     "(plant none none none)", "(plant (east) () ((pot 5)))", "(plant (yes) () ((pot 5 0)))", "(plant (east) () ((pot yes no)))"]:
            self.refused([text, "("], "Refused", 1, "BadPlant")

    def test_acts(self):
        for text in ["()", "7", "do", "none", "(do)", "(do (drain pot) 1)", "(paper)", "(paper 1 2)", "(withdraw)", "(withdraw 1 2)", "(amend 1)", "(amend 1 2 3)", "(label b1)", "(label b1 1 2)",
                     "(bare)", "(bare b1 b2)", "(send b1)", "(send b1 ann bob)", "(take l1 pot 5)", "(plant (east) () ((pot 5 0)))", "((do) (drain pot))", "(- 1)", "(1 1)", "(yes 1)"]:
            self.refused([HEAD, text], "BadAct", 2)
            self.refused([HEAD, TAKE, text, "("], "BadAct", 3)
        for text in ["(opening)", "(opening ())", "(opening () () ())"]:
            self.refused([HEAD, text], "BadAct", 2)

    def test_an_opening_stands_in_the_second_line_only(self):
        house = kitchen()
        first, opening = write_book(cut(house))
        self.refused([first, TAKE, opening], "BadAct", 3)
        self.refused([first, opening, opening], "BadAct", 3)
        self.refused([opening, first], "BadAct", 1)
        self.refused([first, first], "BadAct", 2)

    def test_refused(self):
        for text, word in [("(do (pack kettle b1 21))", "Short"), ("(do (drain bowl))", "NoThing"), ("(do (drain))", "BadDeed"), ("(do 7)", "BadDeed"), ("(do none)", "BadDeed"), ("(paper 7)", "BadPaper"),
                           ("(paper (lacks l2 nuts))", "NoThing"), ("(paper (lacks l1 egg))", "BadPaper"), ("(paper (clause ()))", "Quarrel"), ("(withdraw 1)", "NoPaper"), ("(withdraw none)", "NoPaper"),
                           ("(withdraw yes)", "NoPaper"), ("(amend 1 7)", "NoPaper"), ("(label b1 (free nuts))", "NoThing"), ("(label b1 7)", "NoClaim"), ("(label () (free nuts))", "NoThing"),
                           ("(bare b1)", "NoThing"), ("(send b1 7)", "BadName"), ("(send b1 ann)", "NoThing"), ("(do (take kettle pot 5))", "Known"), ("(do (take l2 pot 101))", "Full"),
                           ("(do ((()) yes no))", "BadDeed"), ("(paper (says (and ((bears l1 egg)))))", "BadPaper"), ("(bare (1 2))", "NoThing"), ("(send none none)", "BadName")]:
            self.refused([HEAD, TAKE, text], "Refused", 3, word)
            # Each line is judged before the next one is read.
            self.refused([HEAD, TAKE, text, "("], "Refused", 3, word)
            self.refused([HEAD, TAKE, "(do (drain pot))", text, "()"], "Refused", 4, word)
        more = [HEAD, TAKE, "(do (pack kettle b1 20))"]
        for text, word in [("(label b1 (free egg))", "Unknown"), ("(label b1 (free nuts))", "Unsure"), ("(bare b1)", "Bare"), ("(send b1 ann)", "Bare")]:
            self.refused([*more, text], "Refused", 4, word)
        sent = [*more, "(label b1 (or (free nuts) (not (free nuts))))", "(send b1 ann)"]
        for text in ("(bare b1)", "(send b1 bob)", "(do (open b1 pot))", "(label b1 (single))"):
            self.refused([*sent, text], "Refused", 6, "Sent")
        called = [*more, "(paper (lacks l1 nuts))", "(label b1 (free nuts))", "(withdraw 1)", "(send b1 ann)"]
        self.refused(called, "Refused", 7, "Called")
        self.refused([HEAD] + ["(do (drain pot))"] * 201, "Refused", 202, "TooMany")


class Books(unittest.TestCase):
    def test_goes_with_its_house(self):
        house = House(PLANT)
        book = Book(house)
        self.assertEqual((book.lines, len(book)), ([HEAD], 1))
        self.assertEqual(book.act(("do", ("take", "l1", "kettle", 30))), 1)
        self.assertEqual(house.acts, (("do", ("take", "l1", "kettle", 30)),))
        self.assertEqual(book.lines, [HEAD, TAKE])
        house.do(("drain", "pot"))
        self.assertEqual((book.lines[2:], len(book)), (["(do (drain pot))"], 3))
        self.assertTrue(book.act(("paper", ("lacks", "l1", "nuts"))) == News(1, (), ()))
        self.assertTrue(TAKE in book)
        for line in ("", "(do (drain kettle))", None, 7, ("do",), [HEAD]):
            self.assertFalse(line in book)
        before = book.lines
        with self.assertRaises(Short):
            book.act(("do", ("pack", "kettle", "b1", 30)))
        self.assertEqual(outcome(lambda: book.act(("do",))), ("BadAct", 0))
        self.assertEqual(book.lines, before)
        before.append("x")
        self.assertNotIn("x", book.lines)

    def test_with_acts(self):
        house = House(PLANT)
        book = Book(house)
        more = book.with_acts([("do", ("take", "l1", "kettle", 30)), ("do", ("drain", "pot"))])
        self.assertIsInstance(more, Book)
        self.assertEqual((len(book), len(more)), (1, 3))
        self.assertEqual(house.acts, ())
        self.assertEqual(more.lines, [HEAD, TAKE, "(do (drain pot))"])
        self.assertTrue(read_book(more.lines) == House.again(PLANT, [("do", ("take", "l1", "kettle", 30)), ("do", ("drain", "pot"))]))
        more.act(("do", ("drain", "kettle")))
        self.assertEqual((len(book), len(more)), (1, 4))
        self.assertEqual(book.with_acts(()).lines, [HEAD])
        with self.assertRaises(NoThing) as caught:
            book.with_acts([("do", ("take", "l1", "kettle", 30)), ("do", ("drain", "bowl")), ("x",)])
        self.assertEqual(caught.exception.name, "bowl")
        self.assertEqual((house.acts, len(book)), ((), 1))

    def test_equal(self):
        book = Book(House(PLANT))
        self.assertTrue(book == Book(House(PLANT)))
        self.assertFalse(book == Book(House(plant_of(1))))
        self.assertFalse(book == book.with_acts([("do", ("drain", "pot"))]))
        self.assertTrue(book.with_acts([("do", ("drain", "pot"))]) == book.with_acts([("do", ("drain", "pot"))]))
        self.assertFalse(book == [HEAD])
        self.assertFalse(book == None)  # noqa: E711

    def test_with_an_opening(self):
        house = cut(kitchen())
        book = Book(house)
        self.assertEqual(len(book), 2)
        self.assertTrue(write_plain(("opening", *house.opening)) in book)
        book.act(("do", ("drain", "pot")))
        self.assertEqual(book.lines, write_book(house))
        self.assertTrue(read_book(book.lines) == house)


if __name__ == "__main__":
    unittest.main()
