"""Washings: plans of the least price, and tables of worths."""

import unittest
from functools import lru_cache
from itertools import permutations
from random import Random

from buffet import BOWLS, breaks, fill, pour, random_menu, random_plain, run_again
from cooking import outcome, plant_with
from swornlots.dirts import first_dirt
from swornlots.menus import Menu
from swornlots.recipes import Recipe
from swornlots.washing import Washing, judge_worths, washing_of

PLANT = plant_with(BOWLS)
FREE, CLEAN, SOYLESS = ("free", "nuts"), ("untouched", "nuts"), ("free", "soy")
FILL, POUR = Recipe(("s",), fill("a")), Recipe(("s",), pour("a", "b"))
MENU = Menu(PLANT, [(FILL, (("nuts",),)), (FILL, (("soy",),)), (POUR, ((),)), (Recipe((), (("drain", "bowl"),)), ())])
FIRST = ((), (None, None))


class Steps:
    """The steps of stands by the words of [47]."""

    def __init__(self, menu, orders, ties, prices):
        self.menu, self.orders, self.ties, self.prices = menu, orders, ties, prices

    def from_stand(self, stand):
        done, dirt = stand
        steps = []
        for k, name in enumerate(self.menu.plant):
            if dirt[k] is not None:
                steps.append((("wash", name), self.prices[k], (done, dirt[:k] + (None,) + dirt[k + 1:])))
        for k, (entry, claim) in enumerate(self.orders):
            if k in done or any(second == k and first not in done for first, second in self.ties):
                continue
            told = run_again(self.menu, entry, dirt)
            if told is not None and not any(breaks(claim, *box[1:]) for box in told[0]):
                steps.append((("run", k), 0, (tuple(sorted({*done, k})), told[1])))
        return steps

    def stands(self):
        start = ((), first_dirt(self.menu.plant))
        found, todo = {start}, [start]
        while todo:
            for _, _, after in self.from_stand(todo.pop()):
                if after not in found:
                    found.add(after)
                    todo.append(after)
        return found

    def worths(self):
        @lru_cache(None)
        def worth(stand):
            if len(stand[0]) == len(self.orders):
                return 0
            told = [price + worth(after) for _, price, after in self.from_stand(stand) if worth(after) is not None]
            return min(told) if told else None
        return {stand: worth(stand) for stand in self.stands()}


class Washings(unittest.TestCase):
    def held(self, menu, orders, prices, ties=()):
        """The price of a washing that is held against [47]."""
        told = washing_of(menu, orders, ties=ties, prices=prices)
        self.assertIsInstance(told, Washing)
        steps = Steps(menu, orders, ties, prices)
        self.assertIsInstance(told.worths, dict)
        self.assertEqual(told.worths, steps.worths())
        self.assertIsNone(judge_worths(menu, orders, told.worths, ties=ties, prices=prices))
        start = ((), first_dirt(menu.plant))
        self.assertEqual(told.price, told.worths[start])
        if not told:
            self.assertIs(bool(told), False)
            self.assertEqual((told.steps, told.price), (None, None))
            self.assertEqual(set(told.worths.values()), {None})
            return None
        self.assertIsInstance(told.steps, tuple)
        stand, paid = start, 0
        for step in told.steps:
            (price, after), = [(price, after) for one, price, after in steps.from_stand(stand) if one == step]
            stand, paid = after, paid + price
        self.assertEqual((len(stand[0]), paid), (len(orders), told.price))
        return told.price

    def test_small_ones(self):
        for orders, price in [
            ([(0, FREE)], 0), ([(1, FREE)], None), ([(0, FREE), (1, SOYLESS)], 7), ([(1, SOYLESS), (0, FREE)], 7), ([(0, FREE), (0, FREE), (0, FREE)], 0),
            ([(0, FREE), (1, ("or", FREE, SOYLESS))], 7), ([(0, FREE), (1, ("or", FREE, ("free", "nuts")))], None), ([(3, FREE)], None), ([(0, FREE), (3, FREE)], None),
            ([(0, FREE), (2, ("or", CLEAN, FREE))], None), ([(2, ("or", FREE, ("or", SOYLESS, CLEAN)))], None),
        ]:
            with self.subTest(orders=orders):
                self.assertEqual(self.held(MENU, orders, (7, 5)), price)
        told = washing_of(MENU, [(0, FREE), (1, SOYLESS)], prices=(7, 5))
        self.assertIn(told.steps, [(("run", 0), ("wash", "a"), ("run", 1)), (("run", 1), ("wash", "a"), ("run", 0))])

    def test_ties(self):
        pots = plant_with((("a", 100, 0), ("b", 60, 0)))
        menu = Menu(pots, [(FILL, (("nuts",),)), (FILL, ((),))])
        orders = [(0, CLEAN), (1, ("or", CLEAN, ("or", FREE, ("untouched", "soy"))))]
        self.assertIsNone(self.held(menu, orders, (7, 5)))
        orders = [(0, CLEAN), (0, FREE), (0, CLEAN)]
        for ties in [(), ((0, 1),), ((1, 0), (2, 1)), [(2, 0), (2, 1)]]:
            self.assertEqual(self.held(menu, orders, (7, 5), ties), 0)
        # Ties that cannot be kept.
        for ties in [((0, 1), (1, 0)), ((0, 0),), ((0, 1), (1, 2), (2, 0))]:
            self.assertIsNone(self.held(menu, orders, (7, 5), ties))
        dirty = Recipe(("s",), (("take", "s", "a", 5), ("drain", "a")))
        menu = Menu(pots, [(dirty, ((),)), (FILL, (("nuts",),))])
        orders = [(0, CLEAN), (1, CLEAN)]
        self.assertEqual(self.held(menu, orders, (7, 5)), 0)
        self.assertEqual(self.held(menu, orders, (7, 5), ((1, 0),)), 0)
        self.assertEqual(self.held(menu, orders, (7, 5), ((0, 1),)), 7)

    def test_a_washing_that_is_dearer_than_two(self):
        """The prices count, and not how often is washed."""
        pots = plant_with((("a", 100, 0), ("b", 100, 0)))
        spill = Recipe(("s",), (("take", "s", "a", 5), ("drain", "a")))
        other = Recipe(("s",), (("when", "a", fill("a"), fill("b")),))
        menu = Menu(pots, [(spill, ((),)), (other, (("nuts",),))])
        orders = [(0, CLEAN), (1, CLEAN), (0, CLEAN), (1, CLEAN)]
        for prices in [(1, 1000), (1000, 1), (1000, 1000)]:
            self.held(menu, orders, prices, ((0, 1), (1, 2), (2, 3)))
        self.assertEqual(self.held(menu, orders, (9, 9), ((0, 1), (1, 2), (2, 3))), 0)

    def test_all_plans(self):
        """Held against all orders of the runs, with all washings in between."""
        random = Random(7)
        found = {}
        for turn in range(120):
            menu = random_menu(random, plant_with(BOWLS, farms=1, traits=2))
            orders = tuple((random.randrange(len(menu)), random_plain(random, menu.plant)) for _ in range(random.randint(1, 3)))
            if turn % 2:
                menu = Menu(menu.plant, [(Recipe(("s",), fill(random.choice("ab"))), (random.choice([("nuts",), ("soy",), ("nuts", "soy")]),)) for _ in range(3)])
                entries = [random.randrange(3) for _ in range(3)]
                orders = tuple((entry, (random.choice(["free", "untouched"]), menu[entry][1][0][0])) for entry in entries)
            prices = (random.randint(1, 9), random.randint(1, 9))
            ties = tuple((random.randrange(len(orders)), random.randrange(len(orders))) for _ in range(random.randint(0, 1)))
            price = self.held(menu, orders, prices, ties)
            self.assertEqual(price, self.least(menu, orders, prices, ties))
            key = price if price in (None, 0) else "some"
            found[key] = found.get(key, 0) + 1
        self.assertTrue(min(found.get(key, 0) for key in (None, 0, "some")) > 5, found)

    def least(self, menu, orders, prices, ties):
        best = None
        for turn in permutations(range(len(orders))):
            if any(turn.index(first) >= turn.index(second) for first, second in ties):
                continue
            for price in self.prices_of(menu, orders, prices, turn, first_dirt(menu.plant)):
                best = price if best is None else min(best, price)
        return best

    def prices_of(self, menu, orders, prices, turn, dirt):
        if not turn:
            yield 0
            return
        for washed in range(1 << len(dirt)):
            paid = sum(prices[k] for k in range(len(dirt)) if washed >> k & 1 and dirt[k] is not None)
            if any(washed >> k & 1 and dirt[k] is None for k in range(len(dirt))):
                continue
            after = tuple(None if washed >> k & 1 else told for k, told in enumerate(dirt))
            entry, claim = orders[turn[0]]
            told = run_again(menu, entry, after)
            if told is None or any(breaks(claim, *box[1:]) for box in told[0]):
                continue
            for price in self.prices_of(menu, orders, prices, turn[1:], told[1]):
                yield paid + price

    def test_six_orders(self):
        pots = plant_with((("a", 100, 0), ("b", 60, 0), ("c", 60, 0)))
        traits = ("nuts", "soy")
        entries = [(Recipe(("s",), fill(vessel)), ((trait,),)) for vessel in "abc" for trait in traits]
        menu = Menu(pots, entries)
        orders = [(k, ("untouched", traits[k % 2])) for k in range(6)]
        self.assertEqual(self.held(menu, orders, (3, 4, 5)), 12)


class Refused(unittest.TestCase):
    def refused(self, orders, *told):
        with self.subTest(orders=orders):
            for kind in (list, tuple):
                self.assertEqual(outcome(lambda: washing_of(MENU, kind(orders), prices=(1, 1))), told)
                self.assertEqual(outcome(lambda: judge_worths(MENU, kind(orders), {}, ties=(), prices=(1, 1))), told)

    def test_orders(self):
        good, egg = (0, FREE), (0, ("free", "egg"))
        for bad in [None, (), 0, (0,), [0, FREE], (0, FREE, FREE), (4, FREE), (-1, FREE), (True, FREE), ("0", FREE), (None, FREE), (0, None), (0, ("free",)), (0, "free nuts"), (0, ["free", "nuts"]),
                    (FREE, 0), ((0,), FREE)]:
            self.refused([bad], "BadOrder", 0)
            self.refused([egg, good, bad, bad], "BadOrder", 2)
            self.refused([good] * 6 + [bad], "BadOrder", 6)
            self.refused([good] * 5 + [bad] * 3, "BadOrder", 5)
        self.refused([], "BadOrder", 0)
        self.refused([egg] * 7, "BadOrder", 6)

    def test_claims(self):
        egg, since = ("free", "egg"), ("since", 1)
        for claims, told in [((egg, since), ("Unknown", "egg")), ((since, egg), ("Unplain", "since")), ((FREE, ("and", since, egg)), ("Unknown", "egg")), ((FREE, ("not", since)), ("Unplain", "not")),
                             ((("least", (1, 2), ("north",)), since), ("Unknown", "north")), ((FREE, ("single",)), ("Unplain", "single"))]:
            self.refused([(0, claim) for claim in claims], *told)


class Worths(unittest.TestCase):
    def setUp(self):
        self.orders = ((0, FREE), (1, SOYLESS), (2, ("or", FREE, ("free", "soy"))))
        self.menu = Menu(PLANT, [(FILL, (("nuts",),)), (FILL, (("soy",),)), (POUR, (("nuts",),))])
        self.prices = (7, 5)
        self.worths = washing_of(self.menu, self.orders, prices=self.prices).worths

    def judged(self, worths, orders=None):
        before = dict(worths)
        told = judge_worths(self.menu, self.orders if orders is None else orders, worths, prices=self.prices)
        self.assertEqual(worths, before)
        return told

    def test_good(self):
        self.assertGreater(len(self.worths), 8)
        self.assertIsNone(self.judged(self.worths))
        self.assertIsNone(self.judged(dict(reversed(list(self.worths.items())))))

    def near(self, stand):
        """The stand and those with a step to it: a worth can only be wrong there."""
        steps = Steps(self.menu, self.orders, (), self.prices)
        return {stand} | {one for one in self.worths if any(after == stand for _, _, after in steps.from_stand(one))}

    def test_one_changed(self):
        for stand, worth in self.worths.items():
            for other in (None, -1, 0, 1, 7, 8, 10 ** 30):
                if other != worth:
                    self.assertIn(self.judged({**self.worths, stand: other}), self.near(stand))

    def test_values_of_any_kind(self):
        for stand in self.worths:
            for other in (True, False, "7", "", (7,), (), [7], 7.0, 0.0, {}, (7, 1)):
                self.assertEqual(self.judged({**self.worths, stand: other}), stand)

    def test_one_missing(self):
        for missing in self.worths:
            worths = {stand: worth for stand, worth in self.worths.items() if stand != missing}
            self.assertEqual(self.judged(worths), missing)
        self.assertEqual(self.judged({}), FIRST)
        for nothing in (None, (), [], 7, "x"):
            self.assertEqual(judge_worths(self.menu, self.orders, nothing, prices=self.prices), FIRST)
        self.assertEqual(self.judged({((0, 1, 2), (None, None)): 0}), FIRST)

    def test_more_stands(self):
        """Stands that cannot be come to can be there, but must be as told, too."""
        more = ((0, 1, 2), (None, ((), ())))
        self.assertNotIn(more, self.worths)
        self.assertIsNone(self.judged({**self.worths, more: 0}))
        self.assertEqual(self.judged({**self.worths, more: 1}), more)
        self.assertEqual(self.judged({**self.worths, more: None}), more)
        more = ((1,), (None, ((), ())))
        told = self.judged({**self.worths, more: None})
        self.assertIsNotNone(told)

    def test_keys_that_are_no_stands(self):
        for junk in [None, 7, "", (), ((), ()), ((),), ((), (None,)), ((), (None, 7)), ((3,), (None, None)), ((-1,), (None, None)), ((-1, 0), (None, None)), ((1, 0), (None, None)), ((0, 0), (None, None)), ((None,), (None, None)),
                     (None, (None, None)), ((), (None, None), 1)]:
            self.assertIsNone(self.judged({junk: 7, **self.worths}), junk)
        # True is no number of an order, though Python finds it equal to 1.
        worths = {}
        for stand, worth in self.worths.items():
            worths[((True,), stand[1]) if stand[0] == (1,) else stand] = worth
        self.assertEqual(worths, self.worths)
        self.assertEqual(self.judged(worths)[0], (1,))

    def test_ties_and_prices_count(self):
        self.assertIsNotNone(judge_worths(self.menu, self.orders, self.worths, ties=((0, 1), (1, 0)), prices=self.prices))
        self.assertIsNotNone(judge_worths(self.menu, self.orders, self.worths, prices=(8, 5)))


if __name__ == "__main__":
    unittest.main()
