"""Houses: acts, their errors, news, and what a house tells."""

import unittest
from random import Random

from model import random_deed
from offices import random_paper
from proving import plant_of
from swornlots.calls import called_boxes, calls, letters
from swornlots.claims import Claim
from swornlots.errors import (
    BadAct, BadDeed, BadName, BadPaper, Bare, Called, Full, Known, LotError, NoClaim, NoPaper, NoThing, Quarrel, Sent, Short, TooMany,
    Unknown, Unsure,
)
from swornlots.houses import House, News
from swornlots.judging import judge
from swornlots.papers import Papers, formula_of
from swornlots.stocks import Stock
from test_claimtexts import random_claim

PLANT = plant_of(2)
FREE, ONE = ("free", "nuts"), ("single",)
SURE = ("or", FREE, ("not", FREE))
START = tuple(("do", deed) for deed in (
    ("take", "l1", "kettle", 40), ("sample", "kettle", "s1"), ("pack", "kettle", "b1", 20), ("take", "l2", "kettle", 30), ("pack", "kettle", "b2", 20),
    ("pack", "kettle", "b3", 10)))
LABELLED = (("paper", ("lacks", "l1", "nuts")), ("paper", ("lacks", "l2", "nuts")), ("paper", ("from", "l2", 5)),
            ("label", "b1", FREE), ("label", "b2", SURE), ("label", "b3", FREE))


def begun(*acts):
    return House.again(PLANT, START + acts)


def told_by(house):
    """What a house tells of itself, but for what is free to tell."""
    stock, papers = house.stock_now(), house.papers_now()
    return (
        house.acts, house.opening, house.lore(), stock.state(), stock.deeds, papers.in_force(), papers.formulas(), papers.sealed, papers.next_number,
        called_boxes(house), letters(house), [(call.box, call.customer, call.claim, call.ways) for call in calls(house)],
        [(house.label_of(box), house.customer_of(box), house.label_of(box) and house.verdict(box).word) for box in stock.box_names()],
    )


class Acts(unittest.TestCase):
    def test_nothing(self):
        house = House(PLANT)
        self.assertTrue(house.plant == PLANT)
        self.assertEqual((house.acts, house.opening), ((), None))
        self.assertEqual(house.lore(), ((), (), 1, (), (), ()))
        self.assertTrue(house.stock_now() == Stock(PLANT))
        self.assertEqual((called_boxes(house), letters(house), list(calls(house))), ((), (), []))

    def test_each_as_a_method_and_as_an_act(self):
        one, other = House(PLANT), House(PLANT)
        for act, method in [
            (("do", ("take", "l1", "kettle", 40)), "do"), (("do", ("pack", "kettle", "b1", 20)), "do"), (("paper", ("lacks", "l1", "nuts")), "put_paper"),
            (("label", "b1", FREE), "label"), (("label", "b1", SURE), "label"), (("bare", "b1"), "bare"), (("label", "b1", FREE), "label"),
            (("amend", 1, ("lacks", "l1", "soy")), "amend"), (("withdraw", 1), "withdraw"), (("paper", ("clause", ((("l1", "nuts"), False),))), "put_paper"),
            (("send", "b1", "bob"), "send"), (("do", ("end", "b1")), "do"),
        ]:
            with self.subTest(act=act):
                first, second = one.act(act), getattr(other, method)(*act[1:])
                self.assertTrue(first == second)
                self.assertEqual(one.acts, other.acts)
                self.assertEqual(one.acts[-1], act)
                self.assertTrue(one == other)
                if act[0] in ("paper", "amend", "withdraw"):
                    self.assertIsInstance(first, News)
                elif act[0] == "do":
                    self.assertEqual(first, len(one.stock_now().deeds))
                else:
                    self.assertIsNone(first)
        self.assertEqual(told_by(one), told_by(other))

    def test_bad_acts(self):
        house = begun()
        before = told_by(house)
        for bad in [(), None, "do", 7, ["do", ("drain", "kettle")], ("do",), ("do", ("drain", "kettle"), 1), ("paper",), ("paper", None, None), ("withdraw",),
                    ("withdraw", 1, 1), ("amend", 1), ("amend", 1, None, None), ("label", "b1"), ("label", "b1", FREE, FREE), ("bare",), ("bare", "b1", "b2"),
                    ("send", "b1"), ("send", "b1", "bob", "bob"), ("Do", ("drain", "kettle")), ("", 1), (None, 1), (["do"], 1), (("do",), 1), ("plant", 1), (True, 1)]:
            with self.subTest(bad=bad):
                with self.assertRaises(BadAct) as caught:
                    house.act(bad)
                self.assertEqual(caught.exception.line, 0)
        self.assertEqual(told_by(house), before)

    def refused(self, house, act, error, *told):
        """An act is refused in both of its forms, with nothing changed."""
        before, same = told_by(house), house.copy()
        method = {"paper": "put_paper"}.get(act[0], act[0])
        for do in (lambda: house.act(act), lambda: getattr(house, method)(*act[1:])):
            with self.assertRaises(error) as caught:
                do()
            self.assertIs(type(caught.exception), error)
            self.assertEqual([value for name, value in vars(caught.exception).items() if name not in ("class_name", "world")], list(told), act)
        self.assertEqual(told_by(house), before)
        self.assertTrue(house == same)
        return caught.exception

    def test_errors_of_deeds(self):
        house = begun(("label", "b1", SURE), ("send", "b1", "bob"), ("label", "b2", SURE))
        for deed, error, told in [
            (["end", "b1"], BadDeed, ["end", "b1"]), (("part", "b1"), BadDeed, ("part", "b1")), (("part", "b9", "b8", 1), NoThing, "b9"),
            (("part", "b1", "b2", 100), Sent, "b1"), (("part", "b1", "new", 1), Sent, "b1"), (("open", "b1", "nowhere"), NoThing, "nowhere"), (("open", "b1", "pot"), Sent, "b1"),
            (("part", "b2", "b1", 100), Known, "b1"), (("part", "b2", "new", 20), Short, "b2"), (("take", "l9", "pot", 101), Full, "pot"), (("take", "b1", "pot", 1), Known, "b1"),
            (("open", "b2", "b1"), NoThing, "b1"),
        ]:
            self.refused(house, ("do", deed), error, told)
        # Where nothing but the box itself is used.
        for deed in [("sample", "b1", "s9"), ("end", "b1")]:
            house.do(deed)
        self.assertEqual(house.customer_of("b2"), "")

    def test_too_many_deeds_go_ahead(self):
        house = begun(("label", "b1", SURE), ("send", "b1", "bob"))
        for _ in range(200 - len(house.stock_now().deeds)):
            house.do(("drain", "pot"))
        for deed in (("part", "b9", "b8", 1), ("part", "b1", "new", 1), ("drain", "pot")):
            self.refused(house, ("do", deed), TooMany, "deed")
        self.refused(house, ("do", ("drain",)), BadDeed, ("drain",))

    def test_sent_goes_ahead_of_too_many_boxes(self):
        house = begun(("label", "b1", SURE), ("send", "b1", "bob"))
        for k in range(13):
            house.do(("part", "b2", "x%d" % k, 1))
        self.refused(house, ("do", ("part", "b1", "new", 1)), Sent, "b1")
        self.refused(house, ("do", ("part", "b2", "new", 1)), TooMany, "box")

    def test_errors_of_papers(self):
        house = begun(*LABELLED)
        quarrel = ("bears", "l1", "nuts")
        for act, error, told in [
            (("paper", ("bears", "l9", "egg")), BadPaper, ("bears", "l9", "egg")), (("paper", ("bears", "l9", "nuts")), NoThing, "l9"),
            (("paper", quarrel), Quarrel, (1, 4)), (("withdraw", 4), NoPaper, 4), (("withdraw", True), NoPaper, True), (("amend", 9, None), NoPaper, 9),
            (("amend", 1, None), BadPaper, None), (("amend", 1, ("clear", "s9", "nuts")), NoThing, "s9"), (("amend", 2, quarrel), Quarrel, (1, 2)),
        ]:
            self.refused(house, act, error, told)
        for _ in range(21):
            house.put_paper(("from", "l1", 1))
        self.refused(house, ("paper", quarrel), TooMany, "paper")
        self.refused(house, ("paper", ("bears", "l9", "nuts")), NoThing, "l9")

    def test_errors_of_labels(self):
        house = begun(*LABELLED, ("send", "b3", "bob"))
        egg, broken = ("free", "egg"), ("free", "soy")
        for box in ("b9", "kettle", "l1", "s1", None, 1, ["b1"]):
            self.refused(house, ("label", box, None), NoClaim, None)
            self.refused(house, ("label", box, egg), NoThing, box)
            self.refused(house, ("bare", box), NoThing, box)
            self.refused(house, ("send", box, "ann"), NoThing, box)
            self.refused(house, ("send", box, "Ann"), BadName, "Ann")
        for box in ("b1", "b3"):
            self.refused(house, ("label", box, ("free",)), NoClaim, ("free",))
            self.refused(house, ("label", box, egg), Unknown, "egg")
        for claim in (broken, FREE):
            self.refused(house, ("label", "b3", claim), Sent, "b3")
        error = self.refused(house, ("label", "b1", broken), Unsure, "b1")
        content = house.stock_now().content("b1")
        self.assertIn(error.world, house.papers_now())
        self.assertFalse(Claim(broken)(PLANT, content, error.world))
        self.assertEqual(house.label_of("b1"), FREE)

    def test_errors_of_bare_and_send(self):
        house = begun(*LABELLED, ("send", "b3", "bob"), ("do", ("part", "b2", "b4", 5)))
        self.refused(house, ("bare", "b3"), Sent, "b3")
        self.refused(house, ("bare", "b4"), Bare, "b4")
        self.refused(house, ("send", "b3", "bob"), Sent, "b3")
        self.refused(house, ("send", "b4", "bob"), Bare, "b4")
        house.withdraw(1)
        for customer in ("", "of", "Bob", None, 1, ["bob"], "bobbobbob"):
            self.refused(house, ("send", "b9", customer), BadName, customer)
        self.refused(house, ("send", "b1", "bob"), Called, "b1")
        self.refused(house, ("send", "b3", "bob"), Sent, "b3")
        house.send("b2", "bob")
        for box, error in (("b4", Bare), ("b9", NoThing), (["b1"], NoThing)):
            with self.assertRaises(error):
                house.verdict(box)
        for told in (house.label_of, house.customer_of, house.verdict):
            for name in ("kettle", "l1", "s1", "b9", None):
                with self.assertRaises(NoThing) as caught:
                    told(name)
                self.assertEqual(caught.exception.name, name)


class Labels(unittest.TestCase):
    def test_exactly_if_sure(self):
        random = Random(33)
        seen = {"sure": 0, "open": 0, "never": 0}
        house = begun()
        for _ in range(120):
            kind = random.random()
            try:
                if kind < 0.3:
                    house.put_paper(random_paper(random, house.stock_now()))
                elif kind < 0.4:
                    house.withdraw(random.randint(1, 20))
                else:
                    box, claim = random.choice(["b1", "b2", "b3"]), random_claim(random, 2)
                    verdict = judge(house.papers_now(), house.stock_now().content(box), claim)
                    seen[verdict.word] += 1
                    try:
                        house.label(box, claim)
                        self.assertTrue(verdict)
                        self.assertEqual((house.label_of(box), house.verdict(box).word), (claim, "sure"))
                    except Unsure as error:
                        self.assertFalse(verdict)
                        self.assertIn(error.world, house.papers_now())
                        self.assertFalse(Claim(claim)(PLANT, house.stock_now().content(box), error.world))
            except (Quarrel, NoPaper, TooMany):
                pass
        self.assertGreater(min(seen.values()), 5)

    def test_boxes_that_go(self):
        house = begun(*LABELLED, ("send", "b1", "ann"), ("send", "b3", "bob"))
        house.do(("part", "b2", "b4", 5))
        self.assertEqual([house.label_of(box) for box in ("b1", "b2", "b3", "b4")], [FREE, SURE, FREE, None])
        house.do(("end", "b1"))
        house.do(("open", "b2", "pot"))
        self.assertEqual(house.lore()[3:], ((("b3", FREE),), (("b3", "bob"),), ("ann", "bob")))
        for box in ("b1", "b2"):
            with self.assertRaises(NoThing):
                house.customer_of(box)
        house.label("b4", SURE)
        house.send("b4", "ann")
        house.do(("end", "b3"))
        house.withdraw(1)
        self.assertEqual(house.lore()[3:], ((("b4", SURE),), (("b4", "ann"),), ("ann", "bob")))

    def test_verdict(self):
        house = begun(*LABELLED)
        self.assertEqual([house.verdict(box).word for box in ("b1", "b2", "b3")], ["sure"] * 3)
        verdict = house.verdict("b3")
        house.withdraw(2)
        self.assertEqual([house.verdict(box).word for box in ("b1", "b2", "b3")], ["sure", "sure", "open"])
        house.put_paper(("bears", "l2", "nuts"))
        self.assertEqual(house.verdict("b3").word, "never")
        self.assertEqual(verdict.word, "sure")


class Telling(unittest.TestCase):
    def test_news(self):
        house = begun(*LABELLED)
        for act, told in [
            (("withdraw", 2), (2, ("b3",), ())), (("withdraw", 1), (1, ("b1",), ())), (("paper", ("lacks", "l1", "nuts")), (4, (), ("b1",))),
            (("amend", 3, ("lacks", "l2", "nuts")), (3, (), ("b3",))), (("paper", ("until", "l1", 9)), (5, (), ())),
            (("amend", 4, ("lacks", "l1", "soy")), (4, ("b1", "b3"), ())), (("paper", ("clear", "s1", "nuts")), (6, (), ("b1", "b3"))),
            (("amend", 6, ("clear", "s1", "soy")), (6, ("b1", "b3"), ())), (("amend", 3, ("lacks", "l1", "nuts")), (3, (), ("b1",))),
            (("amend", 3, ("lacks", "l2", "nuts")), (3, ("b1",), ())),
        ]:
            with self.subTest(act=act):
                news = house.act(act)
                self.assertEqual((news.number, news.called, news.cleared), told)
                self.assertTrue(news == News(*told))
        self.assertEqual(called_boxes(house), ("b1", "b3"))
        house.bare("b3")
        news = house.amend(3, ("says", ("not", ("or", (("bears", "l1", "nuts"), ("bears", "l2", "nuts"))))))
        self.assertEqual((news.number, news.called, news.cleared), (3, (), ("b1",)))
        for other in [News(3, (), ()), News(2, (), ("b1",)), News(3, ("b1",), ("b1",)), (3, (), ("b1",)), None]:
            self.assertFalse(news == other)

    def test_labels_anew(self):
        """A label that comes for one that is called back is sure, so its box is not called back any more."""
        house = begun(*LABELLED)
        house.withdraw(2)
        self.assertEqual(called_boxes(house), ("b3",))
        house.label("b3", SURE)
        self.assertEqual(called_boxes(house), ())
        house.send("b3", "bob")
        self.assertTrue(house.put_paper(("lacks", "l2", "nuts")) == News(4, (), ()))

    def test_random_news(self):
        """News tell the labels that are not sure any more, or again, as the verdicts say, and those that are called back."""
        random = Random(34)
        many = 0
        for _ in range(40):
            house = begun(*LABELLED)
            for _ in range(30):
                boxes = house.stock_now().box_names()
                try:
                    if random.random() < 0.4:
                        house.label(random.choice(boxes), random_claim(random, 1))
                        continue
                    if random.random() < 0.1:
                        house.do(random_deed(random, house.stock_now(), ("l1", "l2", "l3"), 6))
                    before = self.not_sure(house)
                    number = random.randint(1, 6)
                    act = random.choice([("paper", random_paper(random, house.stock_now())), ("withdraw", number), ("amend", number, random_paper(random, house.stock_now()))])
                    news = house.act(act)
                except LotError:
                    continue
                after = self.not_sure(house)
                many += before != after
                self.assertEqual(news.called, tuple(box for box in after if box not in before))
                self.assertEqual(news.cleared, tuple(box for box in before if box not in after))
                self.assertEqual(called_boxes(house), after)
        self.assertGreater(many, 20)

    def not_sure(self, house):
        return tuple(box for box in house.stock_now().box_names() if house.label_of(box) and not house.verdict(box))

    def test_own_stock_and_papers(self):
        house = begun(*LABELLED)
        before = told_by(house)
        stock, papers = house.stock_now(), house.papers_now()
        self.assertTrue(stock == Stock(PLANT) or stock.deeds == tuple(deed for _, deed in START))
        self.assertTrue(stock == house.stock_now())
        stock.do(("wash", "kettle"))
        papers.withdraw(1)
        papers.put(("bears", "l1", "nuts"))
        for thing in papers.stock, papers.copy_for(stock).stock:
            thing.do(("take", "l8", "pot", 1))
        self.assertEqual(papers.allowed().lots, ("l1", "l2", "l8"))
        self.assertIsInstance(papers, Papers)
        self.assertEqual(told_by(house), before)
        self.assertEqual(house.papers_now().formulas(), tuple(formula_of(house.stock_now(), act[1]) for act in LABELLED[:3]))

    def test_again(self):
        house = begun(*LABELLED, ("send", "b2", "bob"), ("withdraw", 1))
        self.assertTrue(House.again(PLANT, list(house.acts)) == house)
        self.assertEqual(told_by(House.again(PLANT, house.acts)), told_by(house))
        for acts, error in [([*house.acts, ("bare", "b9"), ("bare", "b2")], NoThing), ([("bare",)], BadAct), ([("do", None)], BadDeed)]:
            with self.assertRaises(error):
                House.again(PLANT, acts)

    def test_equal(self):
        house = begun(*LABELLED)
        other = begun(*LABELLED)
        self.assertTrue(house == other)
        other.do(("drain", "pot"))
        self.assertFalse(house == other or house == House(PLANT) or house == house.acts)
        house.do(("drain", "pot"))
        self.assertTrue(house == other)
        self.assertFalse(House(PLANT) == House(plant_of(3)))
        self.assertTrue(House(PLANT) == House(plant_of(2)))

    def test_copy(self):
        house = begun(*LABELLED)
        other = house.copy()
        before = told_by(house)
        self.assertTrue(house == other)
        self.assertEqual(told_by(other), before)
        other.do(("end", "b1"))
        other.withdraw(2)
        self.assertEqual(told_by(house), before)
        self.assertFalse(house == other)

    def test_lore(self):
        house = begun(*LABELLED, ("send", "b3", "bob"), ("send", "b1", "ann"), ("withdraw", 2), ("do", ("part", "b2", "b0", 1)))
        self.assertEqual(house.lore(), (
            (), ((1, ("lacks", "l1", "nuts")), (3, ("from", "l2", 5))), 4, (("b1", FREE), ("b2", SURE), ("b3", FREE)), (("b1", "ann"), ("b3", "bob")), ("bob", "ann")))

    def test_does_not_depend_on_questions(self):
        random = Random(35)
        for _ in range(6):
            asked, quiet = begun(), begun()
            for _ in range(40):
                stock = asked.stock_now()
                boxes = stock.box_names() or ("b1",)
                act = random.choice([
                    ("do", random_deed(random, stock, ("l1", "l2", "l3"), 9)), ("paper", random_paper(random, begun().stock_now())), ("withdraw", random.randint(1, 9)),
                    ("label", random.choice(boxes), random_claim(random, 2)), ("send", random.choice(boxes), random.choice(["ann", "bob"])),
                ])
                told = []
                for house in (asked, quiet):
                    try:
                        news = house.act(act)
                        told.append((news.number, news.called, news.cleared) if isinstance(news, News) else news)
                    except LotError as error:
                        told.append(error.class_name)
                self.assertEqual(*told)
                told_by(asked)
            self.assertEqual(told_by(asked), told_by(quiet))
            self.assertTrue(asked == quiet)


class Opened(unittest.TestCase):
    def test_opened(self):
        house = begun(*LABELLED, ("send", "b3", "bob"), ("send", "b1", "ann"), ("withdraw", 2), ("do", ("end", "b1")))
        state, lore = house.stock_now().state(), house.lore()
        other = House.opened(PLANT, state, lore)
        self.assertEqual((other.opening, other.acts), ((state, lore), ()))
        self.assertEqual((other.stock_now().state(), other.lore()), (state, lore))
        self.assertEqual((called_boxes(other), letters(other)), (called_boxes(house), letters(house)))
        self.assertEqual(called_boxes(other), ("b3",))
        self.assertEqual([call.ways for call in calls(other)], [(("l1", (0,)), ("l2", (0,)))])
        self.assertFalse(other == house)
        self.assertTrue(other == House.opened(PLANT, state, lore))
        self.assertFalse(other == House.opened(PLANT, state, (*lore[:5], ())))
        for act in [("paper", ("clear", "s1", "soy")), ("do", ("part", "b2", "b7", 3)), ("label", "b2", ("free", "egg")), ("label", "b7", SURE), ("send", "b3", "cid"),
                    ("do", ("open", "b3", "pot")), ("do", ("take", "b1", "pot", 1)), ("send", "b7", "cid"), ("withdraw", 3), ("paper", ("lacks", "l2", "nuts")),
                    ("do", ("take", "l1", "pot", 5)), ("do", ("pack", "pot", "b9", 5)), ("label", "b9", FREE), ("withdraw", 1)]:
            told = []
            for one in (house, other):
                try:
                    news = one.act(act)
                    told.append((news.number, news.called, news.cleared) if isinstance(news, News) else act[0])
                except LotError as error:
                    told.append(error.class_name)
            self.assertEqual(*told)
        self.assertEqual(other.acts, house.acts[-len(other.acts):])
        self.assertEqual(other.lore(), house.lore())
        self.assertEqual(other.stock_now().state(), house.stock_now().state())
        self.assertEqual(letters(other), letters(house))
        self.assertEqual(other.copy().opening, (state, lore))
        self.assertTrue(other.copy() == other)

    def test_sealed(self):
        state = begun().stock_now().state()
        sealed = (("row", ((("l1", "east"), (1, 1)),), (1, 2)), ("clause", ((("l1", "nuts"), False),)), ("says", ("or", (("bears", "l2", "soy"), ("bears", "l1", "soy")))))
        lore = (sealed, (), 7, (("b1", FREE), ("b3", FREE)), (("b3", "ann"),), ("zoe", "ann"))
        house = House.opened(PLANT, state, lore)
        self.assertEqual(house.lore(), lore)
        self.assertEqual(house.papers_now().sealed, sealed)
        self.assertEqual((called_boxes(house), letters(house)), (("b3",), (("ann", ("b3",)),)))
        news = house.put_paper(("lacks", "l2", "nuts"))
        self.assertTrue(news == News(7, (), ("b3",)))
        with self.assertRaises(NoPaper):
            house.withdraw(1)
        with self.assertRaises(Quarrel) as caught:
            house.put_paper(("most", "l1", ("east",), (1, 3)))
        self.assertEqual(caught.exception.numbers, (8,))
        # b2 is l1 by 2/5.
        with self.assertRaises(Unsure):
            house.label("b2", ("least", (21, 100), ("east",)))
        house.label("b2", ("least", (1, 5), ("east",)))


if __name__ == "__main__":
    unittest.main()
