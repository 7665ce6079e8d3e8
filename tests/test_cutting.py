"""Houses that are cut short: what stays, the sealed papers, and that all later answers are the same."""

import unittest
from fractions import Fraction
from itertools import combinations
from random import Random

from cooking import outcome
from labels import CLEAN, EAST, FREE, LATE, SOYLESS, claim_on, fixing, kitchen, put_label, some_papers, tautology
from model import random_deed
from offices import random_paper
from proving import is_true, plant_of
from shares import pair
from swornlots.asking import first_day, greatest_share, last_day, least_share
from swornlots.books import read_book, write_book
from swornlots.calls import called_boxes, calls, letters
from swornlots.cases import find, way_rows
from swornlots.clauses import Clauses
from swornlots.clearing import clearing_of
from swornlots.cutting import cut, dropped, living, shadow_papers
from swornlots.days import Ties
from swornlots.errors import LotError, NoWorld
from swornlots.formulas import true_in
from swornlots.houses import House, News
from swornlots.papers import formula_of
from swornlots.plants import Plant
from swornlots.points import solve
from swornlots.primes import primes, say_same, shadow_clauses
from swornlots.rows import System, against
from swornlots.settling import settling_of
from swornlots.shadows import follows, shadow
from swornlots.stocks import Stock
from swornlots.tables import Table, shadow_ties
from swornlots.worlds import World
from test_claimtexts import random_claim
from test_houses import told_by

PLANT = plant_of(2)
WORDS = ("row", "clause", "apart", "says")


def house_with(deeds, papers=(), plant=PLANT):
    house = House(plant)
    for deed in deeds:
        house.do(deed)
    for paper in papers:
        house.put_paper(paper)
    return house


TWO = (("take", "l1", "pot", 10), ("pack", "pot", "b1", 10), ("wash", "pot"), ("take", "l2", "pot", 10), ("sample", "pot", "s1"))


class Living(unittest.TestCase):
    def test_things_and_lots(self):
        house = kitchen()
        self.assertEqual(living(house), (("kettle", "pot", "b1", "b2", "b4", "b3", "s1", "s2"), ("l1", "l2", "l3")))
        self.assertEqual(dropped(house), ())
        for deed in [("wash", "kettle"), ("wash", "pot"), ("end", "b2"), ("end", "b3"), ("end", "b4"), ("forget", "s2")]:
            house.do(deed)
        self.assertEqual(living(house), (("kettle", "pot", "b1", "s1"), ("l1",)))
        self.assertEqual(dropped(house), ("l2", "l3"))
        house.do(("forget", "s1"))
        house.do(("end", "b1"))
        self.assertEqual((living(house), dropped(house)), ((("kettle", "pot"), ()), ("l1", "l2", "l3")))

    def test_what_touches_keeps_a_lot(self):
        house = house_with([("take", "l1", "pot", 10), ("drain", "pot")])
        self.assertEqual((living(house), dropped(house)), ((("kettle", "pot"), ("l1",)), ()))
        house.do(("wash", "pot"))
        self.assertEqual(dropped(house), ("l1",))

    def test_bound_lots(self):
        house = house_with([*TWO, ("end", "b1"), ("wash", "pot"), ("forget", "s1")], [("bears", "l1", "nuts"), ("apart", "l1", "l2", 3)])
        self.assertEqual(dropped(house), ("l1", "l2"))
        number = house.put_paper(("says", ("or", (("bears", "l1", "nuts"), ("days", "", "l1", 3))))).number
        self.assertEqual((living(house)[1], dropped(house)), (("l1",), ("l2",)))
        house.withdraw(number)
        self.assertEqual(dropped(house), ("l1", "l2"))
        house.put_paper(("says", ("not", ("days", "l2", "", 3))))
        self.assertEqual(dropped(house), ("l1",))
        short = cut(house)
        # A sealed one binds, too, and cannot be withdrawn.
        self.assertEqual((living(short)[1], dropped(short)), (("l2",), ()))
        self.assertEqual(cut(short).papers_now().sealed, short.papers_now().sealed)


class Cut(unittest.TestCase):
    def test_nothing(self):
        house = House(PLANT)
        short = cut(house)
        self.assertEqual(short.opening, (((((0, (), ()), (0, (), ()))), (), (), (), ()), ((), (), 1, (), (), ())))
        self.assertEqual(short.acts, ())
        self.assertFalse(short == house)
        self.assertTrue(house == House(PLANT))

    def test_state_and_lore(self):
        house = kitchen([("lacks", "l1", "nuts"), ("until", "l2", 7)])
        put_label(house, "b1", FREE)
        put_label(house, "b2", LATE)
        house.label("b4", tautology(CLEAN))
        house.send("b4", "cid")
        house.send("b1", "ann")
        for deed in [("end", "b4"), ("end", "b3"), ("wash", "pot"), ("part", "b2", "b5", 3)]:
            house.do(deed)
        before, copy = told_by(house), house.copy()
        short = cut(house)
        self.assertEqual(told_by(house), before)
        self.assertTrue(house == copy)
        self.assertEqual(dropped(house), ("l3",))
        state, lore = short.opening
        vessels, lots, boxes, samples, used = house.stock_now().state()
        self.assertEqual(state, (vessels, lots[:2], boxes, samples, used))
        self.assertIn("l3", used)
        self.assertEqual(short.stock_now().state(), state)
        sealed, papers, upcoming, labels, sent, customers = lore
        self.assertEqual((papers, upcoming, labels, sent, customers), ((), house.papers_now().next_number, (("b1", FREE), ("b2", LATE)), (("b1", "ann"),), ("cid", "ann")))
        self.assertEqual(sealed, shadow_papers(house))
        self.assertEqual(short.lore(), lore)
        self.assertEqual((short.acts, short.stock_now().deeds), ((), ()))
        self.assertTrue(short.plant == house.plant)
        self.assertEqual(called_boxes(short), ("b2",))
        self.assertEqual(letters(short), letters(house))

    def test_deeds_and_papers_are_numbered(self):
        house = kitchen([("lacks", "l1", "nuts")] * 3)
        short = cut(house)
        self.assertEqual(short.do(("drain", "kettle")), 1)
        self.assertEqual(short.put_paper(("lacks", "l1", "soy")).number, 4)
        self.assertEqual(outcome(lambda: short.withdraw(1)), ("NoPaper", 1))
        self.assertEqual(outcome(lambda: short.amend(2, ("lacks", "l1", "soy"))), ("NoPaper", 2))
        short.withdraw(4)
        self.assertEqual(cut(short).papers_now().next_number, 5)

    def test_names_stay_used(self):
        house = house_with([*TWO, ("end", "b1")])
        short = cut(house)
        self.assertEqual(dropped(house), ("l1",))
        for deed, name in [(("take", "l1", "kettle", 5), "l1"), (("pack", "pot", "b1", 5), "b1"), (("pack", "pot", "l1", 5), "l1"), (("sample", "pot", "s1"), "s1")]:
            self.assertEqual(outcome(lambda: short.do(deed)), ("Known", name))
        self.assertEqual(outcome(lambda: short.stock_now().units("l1")), ("NoThing", "l1"))
        self.assertEqual(outcome(lambda: short.put_paper(("lacks", "l1", "nuts"))), ("NoThing", "l1"))
        self.assertEqual(short.stock_now().lot_names(), ("l2",))
        self.assertEqual(short.do(("take", "l2", "kettle", 5)), 1)

    def test_room_for_more_lots(self):
        house = house_with([("take", f"l{k}", "kettle", 5) for k in range(12)] + [("wash", "kettle"), ("take", "l3", "pot", 5)])
        self.assertEqual(outcome(lambda: house.do(("take", "m", "pot", 5))), ("TooMany", "lot"))
        short = cut(house)
        self.assertEqual(short.stock_now().lot_names(), ("l3",))
        self.assertEqual(short.do(("take", "m", "pot", 5)), 1)

    def test_ways_begin_with_the_opening(self):
        house = kitchen([("lacks", "l1", "nuts"), ("lacks", "l2", "nuts")])
        house.label("b2", FREE)
        house.send("b2", "ann")
        house.amend(1, ("until", "l1", 5))
        short = cut(house)
        (call,), (other,) = calls(house), calls(short)
        self.assertEqual((call.box, call.customer, call.claim), (other.box, other.customer, other.claim))
        self.assertEqual(other.ways, (("l1", (0,)), ("l2", (0,))))
        self.assertIn(other.world, house.papers_now())
        short.do(("open", "b4", "pot"))
        self.assertEqual(short.do(("pack", "pot", "b9", 5)), 2)


def free_of_says(house):
    """The formulas of all papers of a house but the `says` ones."""
    papers = house.papers_now()
    told = [*papers.sealed, *[paper for _, paper in papers.in_force()]]
    return [formula for paper, formula in zip(told, papers.formulas()) if paper[0] != "says"]


def clause_of(formula):
    """The clause of the formula of a paper about traits."""
    if formula[0] == "bears":
        return ((formula[1:], True),)
    if formula[0] == "not":
        return ((formula[1][1:], False),)
    return tuple(pair for part in formula[1] for pair in clause_of(part))


def fixed(plant, world):
    """A formula that is true in worlds that agree with this one on its lots."""
    atoms = []
    for lot, shares, traits, day in world.rows:
        atoms += [("share", (((lot, farm), (1, 1)),), share) for farm, share in zip(plant.farms, shares)]
        atoms += [("bears", lot, trait) if trait in traits else ("not", ("bears", lot, trait)) for trait in plant.traits]
        atoms += [("days", lot, "", -day), ("days", "", lot, day)]
    return ("and", tuple(atoms))


def random_world(random, plant, lots, grain=4):
    rows = []
    for lot in lots:
        cuts = sorted(random.randint(0, grain) for _ in plant.farms[1:])
        shares = tuple(pair(Fraction(high - low, grain)) for low, high in zip([0, *cuts], [*cuts, grain]))
        rows.append((lot, shares, tuple(t for t in plant.traits if random.random() < 0.4), random.randint(-4, 5)))
    return World(plant, rows)


class Sealed(unittest.TestCase):
    def check_form(self, house, sealed):
        """The order and the leanness of [51]."""
        plant, (_, staying) = house.plant, living(house)
        self.assertIsInstance(sealed, tuple)
        self.assertEqual([WORDS.index(paper[0]) for paper in sealed], sorted(WORDS.index(paper[0]) for paper in sealed))
        papers = house.papers_now()
        old = [paper for paper in (*papers.sealed, *[paper for _, paper in papers.in_force()]) if paper[0] == "says"]
        self.assertEqual([paper for paper in sealed if paper[0] == "says"], old)
        rows = [(tuple((u, (-a, b)) for u, (a, b) in paper[1]), "<=", (-paper[2][0], paper[2][1])) for paper in sealed if paper[0] == "row"]
        base = list(way_rows(plant, staying, ()))
        for k, row in enumerate(rows):
            others = [*base, *rows[:k], *rows[k + 1:], against(row)]
            if len(others) <= 200:
                self.assertEqual(solve(System(others))[0], "point")
        ties = [paper[1:] for paper in sealed if paper[0] == "apart"]
        for k, (first, second, n) in enumerate(ties):
            others = Ties([*ties[:k], *ties[k + 1:]])
            if {first, second} <= {"", *others.lots}:
                least = Table(others)[first, second]
                self.assertTrue(least is None or least > n)
        clauses = [paper[1] for paper in sealed if paper[0] == "clause"]
        self.assertEqual(len(clauses), len(set(clauses)))
        self.check_primes(house, staying, clauses)

    def check_primes(self, house, staying, clauses):
        """The clauses follow from the papers, but no part of one does."""
        told = free_of_says(house)
        lots = house.stock_now().lot_names()

        def does_follow(clause):
            literals = [("bears", *mark) if sense else ("not", ("bears", *mark)) for mark, sense in clause]
            return find(house.plant, lots, [*told, ("not", ("or", tuple(literals)))])[0] == "tree"

        for clause in clauses:
            self.assertTrue({lot for (lot, _), _ in clause} <= set(staying))
            self.assertTrue(does_follow(clause))
            for k in range(len(clause)):
                self.assertFalse(does_follow(clause[:k] + clause[k + 1:]))

    def check_worlds(self, random, house, sealed, many=12):
        """A world for the lots that stay keeps the sealed papers exactly if some world of all lots keeps the old ones."""
        plant, (_, staying) = house.plant, living(house)
        short = cut(house)
        formulas = [formula_of(short.stock_now(), paper) for paper in sealed if paper[0] != "says"]
        old, lots = free_of_says(house), house.stock_now().lot_names()
        found = {True: 0, False: 0}
        allowed = house.papers_now().allowed()
        for k in range(many):
            world = random_world(random, plant, staying)
            if k % 3 == 0:
                world = World(plant, [allowed[lot] for lot in staying])
            elif k % 3 == 1 and staying:
                # Near to what is allowed.
                lot = random.choice(staying)
                world = World(plant, [allowed[other] for other in staying if other != lot] + [world[lot]])
            kept = all(true_in(formula, world) for formula in formulas)
            self.assertEqual(kept, find(plant, lots, [*old, fixed(plant, world)])[0] == "world")
            found[kept] += 1
        return found

    def held(self, random, house):
        sealed = shadow_papers(house)
        self.assertEqual(cut(house).papers_now().sealed, sealed)
        self.check_form(house, sealed)
        self.check_worlds(random, house, sealed)
        return sealed

    def test_small_ones(self):
        random = Random(1)
        east = ((("l2", "east"), (1, 1)),)
        for papers, sealed in [
            ([], ()), ([("lacks", "l2", "nuts")], (("clause", ((("l2", "nuts"), False),)),)), ([("lacks", "l1", "nuts")], ()),
            ([("bears", "l2", "soy")], (("clause", ((("l2", "soy"), True),)),)), ([("until", "l2", 4)], (("apart", "", "l2", 4),)), ([("from", "l2", 4)], (("apart", "l2", "", -4),)),
            ([("until", "l1", 4)], ()), ([("until", "l1", 4), ("apart", "l1", "l2", 3)], (("apart", "", "l2", 7),)),
            ([("until", "l1", 4), ("apart", "l1", "l2", 3), ("until", "l2", 6)], (("apart", "", "l2", 6),)),
            ([("clause", ((("l1", "nuts"), True), (("l2", "nuts"), True)))], ()),
            ([("clause", ((("l1", "nuts"), True), (("l2", "nuts"), True))), ("lacks", "l1", "nuts")], (("clause", ((("l2", "nuts"), True),)),)),
            ([("clause", ((("l1", "nuts"), True), (("l2", "nuts"), True))), ("clause", ((("l1", "nuts"), False), (("l2", "soy"), False)))],
             (("clause", ((("l2", "nuts"), True), (("l2", "soy"), False))),)),
            ([("least", "l2", ("east", "west"), (1, 1))], ()), ([("least", "l2", ("east",), (0, 1))], ()), ([("measured", "s1", ("west",), (0, 1), (1, 1))], ()),
            ([("clear", "s1", "nuts"), ("found", "s1", "soy")], (("clause", ((("l2", "nuts"), False),)), ("clause", ((("l2", "soy"), True),)))),
            ([("lacks", "l2", "nuts")] * 3, (("clause", ((("l2", "nuts"), False),)),)),
        ]:
            with self.subTest(papers=papers):
                house = house_with([*TWO, ("end", "b1")], papers)
                self.assertEqual(dropped(house), ("l1",))
                self.assertEqual(self.held(random, house), sealed)
        for papers in [[("least", "l2", ("east",), (1, 2))], [("most", "l2", ("west",), (1, 2))], [("row", east, (1, 2))], [("measured", "s1", ("east",), (1, 2), (1, 1))],
                       [("least", "l1", ("east",), (3, 4)), ("row", ((("l1", "east"), (-1, 1)), (("l2", "east"), (1, 1))), (-1, 4))]]:
            house = house_with([*TWO, ("end", "b1")], papers)
            sealed = self.held(random, house)
            self.assertEqual([paper[0] for paper in sealed], ["row"])
            formula = formula_of(cut(house).stock_now(), sealed[0])
            if len(papers) == 1:
                for k in range(5):
                    self.assertEqual(is_true(formula, (("l2", (pair(Fraction(k, 4)), pair(1 - Fraction(k, 4))), (), 0),), PLANT.farms), k >= 2)

    def test_the_order(self):
        says = [("says", ("or", (("bears", "l1", "soy"), ("share", ((("l1", "east"), (1, 1)),), (1, 2))))), ("says", ("and", ()))]
        house = house_with(TWO, [says[0], ("until", "l2", 4), ("lacks", "l2", "nuts"), ("least", "l1", ("east",), (1, 4)), says[1]])
        short = cut(house)
        sealed = short.papers_now().sealed
        self.assertEqual([paper[0] for paper in sealed], ["row", "clause", "apart", "says", "says"])
        self.assertEqual(sealed[3:], tuple(says))
        more = ("says", ("days", "l1", "l2", 9))
        for paper in [("lacks", "l2", "soy"), more, ("from", "l2", 1)]:
            short.put_paper(paper)
        again = cut(short).papers_now().sealed
        self.assertEqual([paper[0] for paper in again], ["row", "clause", "clause", "apart", "apart", "says", "says", "says"])
        self.assertEqual(again[5:], (*says, more))
        self.assertEqual(cut(cut(short)).papers_now().sealed, again)

    def test_papers_of_forgotten_samples(self):
        house = house_with([*TWO, ("pack", "pot", "b2", 5)], [("clear", "s1", "nuts"), ("measured", "s1", ("east",), (1, 4), (1, 2))])
        house.do(("forget", "s1"))
        sealed = self.held(Random(2), house)
        self.assertEqual([paper[0] for paper in sealed], ["row", "row", "clause"])

    def test_random_ones(self):
        random = Random(3)
        found = {}
        for _ in range(150):
            plant = plant_of(random.randint(1, 3))
            house = House(plant)
            for k in range(1, 6):
                house.do(("take", f"l{k}", random.choice(["kettle", "pot"]), 10))
                if random.random() < 0.5:
                    thing = random.choice([vessel for vessel in plant if house.stock_now().mix(vessel)])
                    house.do(("sample", thing, f"s{k}"))
            some_papers(random, house, random.randint(3, 14))
            house.do(("wash", random.choice(["kettle", "pot"])))
            for sample in house.stock_now().sample_names():
                if random.random() < 0.7:
                    house.do(("forget", sample))
            for k in range(random.randint(0, 2)):
                sealed = self.held(random, house)
                for paper in sealed:
                    found[paper[0]] = found.get(paper[0], 0) + 1
                found["dropped"] = found.get("dropped", 0) + len(dropped(house))
                house = cut(house)
                if house.stock_now().lot_names():
                    some_papers(random, house, 4)
        self.assertTrue(min(found.get(word, 0) for word in (*WORDS, "dropped")) > 20, found)

    def test_against_the_shadows(self):
        """Within the bounds of [11], [16] and [20] the sealed papers say the same as the shadows of systems, clauses and ties."""
        random = Random(7)
        found = {word: 0 for word in WORDS[:3]}
        for _ in range(60):
            house = House(PLANT)
            for k in range(1, 5):
                house.do(("take", f"l{k}", "kettle", 10))
            for _ in range(14):
                paper = random_paper(random, house.stock_now())
                if paper[0] not in ("says", "clear", "found", "measured"):
                    outcome(lambda: house.put_paper(paper))
            house.do(("wash", "kettle"))
            for k in random.sample(range(1, 5), 2):
                house.do(("take", f"l{k}", "pot", 5))
            staying = living(house)[1]
            formulas = free_of_says(house)
            sealed = {word: [paper for paper in shadow_papers(house) if paper[0] == word] for word in WORDS}
            shares = tuple((formula, True) for formula in formulas if formula[0] == "share")
            names = tuple((lot, farm) for lot in staying for farm in PLANT.farms)
            told = shadow(way_rows(PLANT, house.stock_now().lot_names(), shares), names)
            again = way_rows(PLANT, staying, tuple((("share", *paper[1:]), True) for paper in sealed["row"]))
            for first, second in ((told, again), (again, told)):
                self.assertTrue(all(follows(first, row) is None for row in second))
            clauses = Clauses([clause_of(formula) for formula in formulas if formula[0] not in ("share", "days")])
            self.assertLessEqual({paper[1] for paper in sealed["clause"]}, set(primes(clauses)))
            marks = tuple((lot, trait) for lot in staying for trait in PLANT.traits)
            self.assertTrue(say_same(Clauses(shadow_clauses(clauses, marks)), Clauses([paper[1] for paper in sealed["clause"]])))
            ties = Ties([formula[1:] for formula in formulas if formula[0] == "days"])
            self.assertTrue(Table(Ties(shadow_ties(ties, staying))) == Table(Ties([paper[1:] for paper in sealed["apart"]])))
            for word in found:
                found[word] += len(sealed[word])
        self.assertGreater(min(found.values()), 20, found)

    def test_many_clauses_about_few_marks(self):
        """Clauses that only cases show to follow, with and without marks that are dropped."""
        random = Random(8)
        x, y, z = ("l2", "nuts"), ("l2", "soy"), ("l3", "nuts")
        four = [("clause", ((x, True), (y, one), (z, other))) for one in (True, False) for other in (True, False)]
        house = house_with([("take", lot, "kettle", 10) for lot in ("l1", "l2", "l3")], four)
        self.assertEqual(shadow_papers(house), (("clause", ((x, True),)),))
        found = {}
        for _ in range(80):
            house = house_with([("take", f"l{k}", "kettle", 10) for k in range(1, 5)])
            marks = [(f"l{k}", trait) for k in range(1, 5) for trait in PLANT.traits][:random.randint(4, 8)]
            clauses = []
            for _ in range(random.randint(8, 22)):
                clause = tuple((mark, random.random() < 0.5) for mark in sorted(random.sample(marks, 3)))
                if isinstance(outcome(lambda: house.put_paper(("clause", clause))), News):
                    clauses.append(clause)
            if random.random() < 0.6:
                house.do(("wash", "kettle"))
                for k in random.sample(range(1, 5), 3):
                    house.do(("take", f"l{k}", "pot", 5))
            sealed = [paper[1] for paper in shadow_papers(house)]
            staying = living(house)[1]
            told = shadow_clauses(Clauses(clauses), tuple((lot, trait) for lot in staying for trait in PLANT.traits))
            self.assertLessEqual(set(sealed), set(told))
            if len(told) <= 60:
                self.assertTrue(say_same(Clauses(told), Clauses(sealed)))
            found[len(staying)] = found.get(len(staying), 0) + len(sealed)
        self.assertGreater(min(found[3], found[4]), 30)

    def test_beyond_bounds(self):
        """More than 12 marks, 60 clauses, and 200 rows with those of the shares."""
        random = Random(4)
        plant = Plant(["east", "west", "north", "south"], ["egg", "milk", "nuts", "soy"], [("kettle", 1000, 10), ("pot", 1000, 0)])
        lots = [f"l{k}" for k in range(12)]
        house = house_with([("take", lot, "kettle", 10) for lot in lots], (), plant)
        todo = [("least", lot, farms, {1: (1, 10), 2: (1, 3), 3: (3, 5)}[many]) for lot in lots for many in (1, 2, 3) for farms in combinations(plant.farms, many)]
        marks = [(lot, trait) for lot in lots for trait in plant.traits]
        clauses = {tuple((mark, random.random() < 0.7) for mark in sorted(random.sample(marks, 3))) for _ in range(75)}
        todo += [("clause", clause) for clause in sorted(clauses)]
        todo += [("apart", first, second, 50 + random.randint(0, 20)) for first in ["", *lots] for second in ["", *lots] if first < second]
        random.shuffle(todo)
        while todo:
            for _ in range(min(24, len(todo))):
                house.put_paper(todo.pop())
            house = cut(house)
        sealed = house.papers_now().sealed
        many = {word: len([paper for paper in sealed if paper[0] == word]) for word in WORDS}
        self.assertEqual(many["row"], 12 * 14)
        self.assertGreater(many["row"] + 12 * 5, 200)
        self.assertGreater(many["clause"], 60)
        self.assertGreater(many["apart"], 20)
        self.check_form(house, sealed)
        # Now a lot is dropped, of which others hang.
        for paper in [("row", ((("l0", "east"), (1, 1)), (("l1", "east"), (-1, 1))), (-1, 10)), ("row", ((("l0", "east"), (-1, 1)), (("l2", "east"), (1, 1))), (-1, 10))]:
            house.put_paper(paper)
        house.do(("wash", "kettle"))
        for lot in lots[1:]:
            house.do(("take", lot, "pot", 5))
        self.assertEqual(dropped(house), ("l0",))
        sealed = shadow_papers(house)
        self.assertTrue(any({lot for (lot, _), _ in paper[1]} == {"l1", "l2"} for paper in sealed if paper[0] == "row"))
        self.check_worlds(random, house, sealed, 6)
        short = cut(house)
        self.assertEqual(greatest_share(short.papers_now(), (((("l1", (1, 1)),)), ("l1",)), ("east",))[0], greatest_share(house.papers_now(), (((("l1", (1, 1)),)), ("l1",)), ("east",))[0])


LOTS = ("l1", "l2", "l3", "l4", "l5", "l6")
LABELS = (FREE, CLEAN, EAST, LATE, SOYLESS, ("single",))


def random_act(random, house, gone):
    """An act that names no dropped lot."""
    stock, kind = house.stock_now(), random.random()
    boxes = stock.box_names() or ("b0",)
    numbers = [*[number for number, _ in house.papers_now().in_force()], 99]
    if kind < 0.45 or not stock.lot_names():
        return ("do", random_deed(random, stock, lots=[lot for lot in LOTS if lot not in gone]))
    if kind < 0.68:
        return ("paper", random_paper(random, stock))
    if kind < 0.74:
        return ("withdraw", random.choice(numbers))
    if kind < 0.79:
        return ("amend", random.choice(numbers), random_paper(random, stock))
    if kind < 0.93:
        claim = random.choice(LABELS) if random.random() < 0.7 else random_claim(random, 2)
        return ("label", random.choice(boxes), claim if random.random() < 0.6 else tautology(claim))
    if kind < 0.95:
        return ("bare", random.choice(boxes))
    return ("send", random.choice(boxes), random.choice(["ann", "bob", "cid"]))


def result(house, act):
    """What an act comes to, but for what is free to tell and the numbers of deeds."""
    try:
        told = house.act(act)
    except LotError as error:
        return (type(error).__name__, *[value for name, value in vars(error).items() if name not in ("world", "numbers", "class_name")])
    return ("done",) if act[0] == "do" else ("done", None if told is None else (told.number, told.called, told.cleared))


class TheSameForEver(unittest.TestCase):
    def answers(self, random, house):
        """What a house tells by [52]."""
        stock, papers = house.stock_now(), house.papers_now()
        vessels, lots, boxes, samples, used = stock.state()
        told = [vessels, boxes, samples, used, called_boxes(house), letters(house), papers.next_number]
        labelled = []
        for box in stock.box_names():
            claim = house.label_of(box)
            told.append((box, claim, house.customer_of(box), claim and house.verdict(box).word))
            if claim:
                labelled.append(box)
        things = [thing for thing in (*house.plant, *stock.box_names(), *stock.sample_names()) if stock.mix(thing)]
        for thing in things:
            farms = tuple(farm for farm in house.plant.farms if random.random() < 0.6) or house.plant.farms[:1]
            told.append((thing, greatest_share(papers, stock.content(thing), farms)[0], least_share(papers, stock.content(thing), farms)[0]))
        if things:
            tests = [(random.randint(1, 9), random.choice(things), random.choice(LABELS)) for _ in range(4)]
            tests += [(random.randint(1, 9), box, house.label_of(box)) for box in labelled[:1]]
            try:
                clearing = clearing_of(house, labelled, tests)
                told.append((clearing.tests, clearing.price))
            except NoWorld:
                told.append("NoWorld")
            told.append(settling_of(house, labelled[:2], tests).price)
        return told

    def days(self, house, lots):
        papers = house.papers_now()
        return [(lot, first_day(papers, lot)[0], last_day(papers, lot)[0]) for lot in lots]

    def compared(self, random, house, short):
        _, staying = living(short)
        seed = random.random()
        self.assertEqual(self.answers(Random(seed), house), self.answers(Random(seed), short))
        self.assertEqual(self.days(house, staying), self.days(short, staying))
        units = {lot: house.stock_now().units(lot) for lot in short.stock_now().lot_names()}
        self.assertEqual(units, {lot: short.stock_now().units(lot) for lot in short.stock_now().lot_names()})

    def labelling(self, random, house):
        """Acts that put a label on a box that is perhaps called back at their end."""
        stock = house.stock_now()
        boxes = [box for box in stock.box_names() if not house.customer_of(box)]
        if not boxes:
            return []
        box, claim = random.choice(boxes), random.choice(LABELS)
        word, world = house.papers_now().search(claim_on(house, box, claim))
        number = house.papers_now().next_number
        if word == "tree" or len(house.papers_now().in_force()) > 12:
            return []
        papers = fixing(house.plant, stock, world)
        label = [("label", box, claim), *[("send", box, "ann")] * random.randint(0, 1)]
        return [*[("paper", paper) for paper in papers], *label, *[("withdraw", number + k) for k in range(len(papers))]]

    def run_once(self, random, found):
        house = House(plant_of(random.randint(1, 3)))
        for _ in range(30):
            result(house, random_act(random, house, ()))
        for act in self.labelling(random, house):
            result(house, act)
        short, gone = house.copy(), set()
        for _ in range(3):
            gone |= set(dropped(short))
            found["dropped"] += len(dropped(short))
            short = cut(short)
            if random.random() < 0.5:
                short = read_book(write_book(short))
            self.compared(random, house, short)
            numbers = {number for number, _ in house.papers_now().in_force()} - {number for number, _ in short.papers_now().in_force()}
            for act in [*self.labelling(random, short), *[None] * 14]:
                act = random_act(random, short, gone) if act is None else act
                if act[0] in ("withdraw", "amend") and act[1] in numbers:
                    continue
                told = [result(one.copy(), act) for one in (house, short)]
                if any(one[0] == "TooMany" for one in told):
                    continue
                self.assertEqual(*told)
                self.assertEqual(result(house, act), result(short, act))
                found[told[0][0]] = found.get(told[0][0], 0) + 1
                found["called"] += len(called_boxes(house))
            self.compared(random, house, short)

    def test_random_acts(self):
        random = Random(5)
        found = {"dropped": 0, "called": 0}
        for _ in range(60):
            self.run_once(random, found)
        for word in ("dropped", "called", "done", "Unsure", "Quarrel", "Sent", "Bare", "Short", "Known", "NoPaper"):
            self.assertGreater(found.get(word, 0), 0, word)

    def test_a_small_case_with_dropped_lots(self):
        """What hung of a dropped lot still holds."""
        house = house_with([("take", "l1", "pot", 10), ("take", "l2", "kettle", 50), ("pack", "kettle", "b1", 20), ("wash", "pot")])
        for paper in [("apart", "l1", "l2", 3), ("until", "l1", 4), ("clause", ((("l1", "nuts"), True), (("l2", "nuts"), False))), ("clause", ((("l1", "nuts"), False), (("l2", "soy"), False)))]:
            house.put_paper(paper)
        short = cut(house)
        self.assertEqual(dropped(house), ("l1",))
        for told in (house, short):
            told.label("b1", ("until", 7))
            self.assertEqual(outcome(lambda: told.label("b1", ("until", 6)))[0], "Unsure")
            told.label("b1", ("or", FREE, SOYLESS))
            self.assertEqual(outcome(lambda: told.put_paper(("from", "l2", 8)))[0], "Quarrel")
            number = told.put_paper(("bears", "l2", "nuts")).number
            told.label("b1", SOYLESS)
            self.assertEqual(told.withdraw(number).called, ("b1",))
        self.compared(Random(6), house, short)


class StateAndLore(unittest.TestCase):
    def test_the_parts_of_a_state(self):
        stock = Stock(PLANT)
        self.assertEqual(stock.state(), (((0, (), ()), (0, (), ())), (), (), (), ()))
        for deed in [("take", "l2", "kettle", 40), ("take", "l1", "pot", 30), ("pack", "pot", "b2", 10), ("sample", "b2", "s2"), ("move", "kettle", "pot", 20), ("pack", "kettle", "b1", 10),
                     ("sample", "pot", "s1"), ("part", "b2", "b3", 4), ("drain", "pot"), ("end", "b1"), ("sample", "b3", "s3"), ("forget", "s3")]:
            stock.do(deed)
        one, half = (1, 1), (1, 2)
        vessels, lots, boxes, samples, used = stock.state()
        self.assertEqual(vessels, ((10, (("l2", one),), ("l2",)), (0, (), ("l1", "l2"))))
        self.assertEqual(lots, (("l2", (40, 1), (20, 1), (10, 1)), ("l1", (30, 1), (20, 1), (0, 1))))
        self.assertEqual(boxes, (("b2", 6, (("l1", one),), ("l1",)), ("b3", 4, (("l1", one),), ("l1",))))
        self.assertEqual(samples, (("s2", (("l1", one),), ("l1",)), ("s1", (("l1", half), ("l2", half)), ("l1", "l2"))))
        self.assertEqual(used, ("b1", "b2", "b3", "l1", "l2", "s1", "s2", "s3"))
        self.assertEqual(Stock.opened(PLANT, stock.state()).state(), stock.state())

    def test_the_parts_of_a_lore(self):
        house = kitchen([("lacks", "l1", "nuts"), ("until", "l2", 3), ("says", ("bears", "l3", "soy"))])
        house.withdraw(2)
        house.amend(1, ("lacks", "l2", "soy"))
        for box in ("b3", "b1", "b2"):
            house.label(box, tautology(FREE))
        house.send("b3", "bob")
        house.send("b1", "ann")
        house.do(("end", "b3"))
        sealed, papers, upcoming, labels, sent, customers = house.lore()
        self.assertEqual((sealed, papers, upcoming), ((), ((1, ("lacks", "l2", "soy")), (3, ("says", ("bears", "l3", "soy")))), 4))
        self.assertEqual((labels, sent, customers), ((("b1", tautology(FREE)), ("b2", tautology(FREE))), (("b1", "ann"),), ("bob", "ann")))
        again = House.opened(PLANT, house.stock_now().state(), house.lore())
        self.assertEqual(again.lore(), house.lore())
        self.assertEqual(again.opening, (house.stock_now().state(), house.lore()))
        short = cut(house)
        self.assertEqual(short.lore(), short.opening[1])
        self.assertEqual(short.lore()[1:], ((), 4, labels, sent, customers))
        self.assertEqual(short.lore()[0], (("clause", ((("l2", "soy"), False),)), ("says", ("bears", "l3", "soy"))))
        # Papers in force stand beside the sealed ones.
        short.put_paper(("lacks", "l1", "soy"))
        self.assertEqual(short.lore()[:3], (short.opening[1][0], ((4, ("lacks", "l1", "soy")),), 5))


if __name__ == "__main__":
    unittest.main()
