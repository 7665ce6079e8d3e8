"""The names and arguments of the interface, and where they are defined."""

import importlib
import inspect
import unittest

FUNCTIONS = {
    "ratios": {"is_fraction": "thing", "is_share": "thing", "compare": "first second", "total": "pairs"},
    "forms": {"is_name": "thing"},
    "contents": {"blend": "parts", "only": "lot"},
    "ways": {"ways": "stock lot thing", "first_way": "stock lot thing", "walked": "plant deeds way"},
    "traces": {"traces": "stock lot thing", "first_trace": "stock lot thing", "things_of": "stock lot"},
    "trials": {"state_after": "stock deeds", "branches": "stock deeds rows"},
    "rows": {"against": "row"},
    "points": {"solve": "system", "unkept": "system point", "shuts": "system prices", "sum_of": "system prices"},
    "ends": {"greatest": "system parts", "least": "system parts"},
    "shadows": {"follows": "system row", "lean": "system", "shadow": "system unknowns", "lift": "system point"},
    "clauses": {"decide": "clauses", "shut": "clauses tree"},
    "primes": {"primes": "clauses", "say_same": "first second", "implied": "clauses clause",
               "shadow_clauses": "clauses marks", "fewest": "clauses marks"},
    "days": {"placed": "ties", "is_ring": "ties ring"},
    "tables": {"shadow_ties": "ties lots", "lean_ties": "ties", "last_days": "ties", "first_days": "ties"},
    "formulas": {"check_formula": "plant formula", "atoms_of": "formula", "lots_of": "formula", "true_in": "formula world",
                 "known": "formula answers"},
    "cases": {"find": "plant lots formulas", "closed": "plant lots formulas tree", "way_rows": "plant lots asked", "way_ties": "asked"},
    "papers": {"formula_of": "stock paper"},
    "quarrels": {"least_quarrel": "plant lots fixed formulas"},
    "asking": {"answer": "papers formula", "greatest_share": "papers content farms", "least_share": "papers content farms",
               "last_day": "papers lot", "first_day": "papers lot"},
    "claimtexts": {"read_claim": "text", "write_claim": "tree"},
    "claims": {"check_claim": "tree", "claim_formula": "plant content claim"},
    "judging": {"judge": "papers content claim"},
    "leading": {"standard": "number", "leads": "plant first second", "alike": "plant first second", "order": "plant claims"},
    "calls": {"calls": "house", "called_boxes": "house", "letters": "house"},
    "trying": {"tried": "house acts"},
    "looks": {"check_tests": "house boxes tests", "test_formula": "house test", "answers_in": "house tests world"},
    "clearing": {"clearing_of": "house boxes tests"},
    "settling": {"settling_of": "house boxes tests"},
    "recipes": {"row_of": "recipe stock lots boxes"},
    "scripts": {"write_recipe": "recipe", "read_recipe": "lines"},
    "maps": {"map_of": "plant recipe standing", "can_run": "plant recipe standing", "standings": "plant"},
    "pledges": {"standard_stock": "plant recipe standing", "judge_box": "plant recipe standing needs pledges box claim",
                "judge_rest": "plant recipe standing needs pledges vessel claim", "hold_up": "plant recipes needs pledges"},
    "partings": {"parting": "plant recipe other standing", "alike_recipes": "plant recipe other"},
    "menus": {"check_plain": "claim", "can_break": "plant claim inside around"},
    "dirts": {"first_dirt": "plant", "runs_from": "menu dirt", "run_in": "menu entry dirt", "dirts": "menu"},
    "walking": {"walk": "menu claim", "judge_table": "menu claim table"},
    "twins": {"compare_menus": "menu other"},
    "washing": {"washing_of": "menu orders ties prices", "judge_worths": "menu orders worths ties prices"},
    "plaintexts": {"write_plain": "value", "read_plain": "text"},
    "books": {"write_book": "house", "read_book": "lines"},
    "cutting": {"living": "house", "dropped": "house", "cut": "house", "shadow_papers": "house"},
}
CLASSES = {
    "ratios": {"Ratio": ("above below", "__add__ __sub__ __mul__ __neg__ __abs__ __eq__ over less pair of")},
    "plants": {"Plant": ("farms traits vessels", "__getitem__ __len__ __iter__ __contains__ __eq__")},
    "stocks": {"Stock": ("plant", "do level clean amount mix touched content units lot_names box_names sample_names "
                                  "__contains__ standing deeds opening state opened copy __eq__")},
    "trials": {"Trial": ("stock", "__enter__ __exit__")},
    "rows": {"Form": ("parts", "__add__ __sub__ __neg__ __mul__ __getitem__ __len__ __iter__ __eq__ at"),
             "System": ("rows", "unknowns __add__ __len__ __iter__ __eq__ __contains__")},
    "ends": {"End": (None, "__bool__")},
    "clauses": {"Clauses": ("rows", "marks __add__ __len__ __iter__ __contains__ __eq__")},
    "days": {"Ties": ("rows", "lots __add__ __len__ __iter__ __eq__ __contains__")},
    "tables": {"Table": ("ties", "__getitem__ __iter__ __len__ __eq__")},
    "worlds": {"World": ("plant rows", "lots __getitem__ share bears day __iter__ __contains__ __len__ __eq__ changed plain")},
    "papers": {"Papers": ("stock", "put withdraw amend in_force formulas sealed next_number allowed __contains__ search copy_for opened")},
    "claims": {"Claim": ("tree", "text __and__ __or__ __invert__ __eq__ __call__ read")},
    "judging": {"Verdict": (None, "__bool__")},
    "houses": {"News": (None, "__eq__"),
               "House": ("plant", "do put_paper withdraw amend label bare send act acts opening stock_now papers_now label_of customer_of "
                                  "verdict lore again opened copy __eq__")},
    "calls": {"Call": (None, "")},
    "trying": {"WhatIf": ("house", "__enter__ __exit__")},
    "clearing": {"Clearing": (None, "__bool__")},
    "settling": {"Settling": (None, "__bool__ __call__")},
    "recipes": {"Recipe": ("slots steps", "packs __eq__ __call__")},
    "maps": {"Map": (None, "__mul__ __eq__ put_on")},
    "menus": {"Menu": ("plant entries", "__len__ __iter__ __getitem__ __eq__")},
    "walking": {"Walk": (None, "__bool__")},
    "twins": {"Twins": (None, "__bool__")},
    "washing": {"Washing": (None, "__bool__")},
    "books": {"Book": ("house", "act lines with_acts __len__ __contains__ __eq__")},
}
METHODS = {
    "Stock": {"do": "deed", "level": "vessel", "clean": "vessel", "amount": "box", "mix": "thing", "touched": "thing",
              "content": "thing", "units": "lot", "opened": "plant state", "copy": "", "state": "", "standing": ""},
    "Ratio": {"over": "other", "less": "other", "of": "pair"},
    "Form": {"at": "point"},
    "World": {"share": "lot farm", "bears": "lot trait", "day": "lot", "changed": "row", "plain": "plant lots"},
    "Papers": {"put": "paper", "withdraw": "number", "amend": "number paper", "in_force": "", "formulas": "", "allowed": "", "search": "formulas",
               "copy_for": "stock", "opened": "stock sealed papers next_number"},
    "Claim": {"read": "text", "__call__": "plant content world"},
    "House": {"do": "deed", "put_paper": "paper", "withdraw": "number", "amend": "number paper", "label": "box claim", "bare": "box",
              "send": "box customer", "act": "act", "stock_now": "", "papers_now": "", "label_of": "box", "customer_of": "box", "verdict": "box",
              "lore": "", "again": "plant acts", "opened": "plant state lore", "copy": ""},
    "Settling": {"__call__": "world"},
    "Recipe": {"__call__": "stock lots boxes"},
    "Map": {"put_on": "lots rests"},
    "Book": {"act": "act", "with_acts": "acts"},
}
PROPERTIES = {"Ratio": "pair", "Stock": "deeds opening", "System": "unknowns", "Clauses": "marks", "Ties": "lots", "World": "lots",
              "Papers": "sealed next_number", "Claim": "text", "House": "acts opening",
              "Recipe": "packs", "Book": "lines"}


def parameters(thing):
    return [name for name in inspect.signature(thing).parameters if name != "self"]


class Interface(unittest.TestCase):
    def test_functions(self):
        for module, functions in FUNCTIONS.items():
            file = importlib.import_module(f"swornlots.{module}")
            for name, told in functions.items():
                with self.subTest(name):
                    function = vars(file)[name]
                    self.assertTrue(inspect.isfunction(function))
                    self.assertEqual(function.__module__, f"swornlots.{module}")
                    self.assertEqual(parameters(function), told.split())

    def test_generators(self):
        for module, name in [("ways", "ways"), ("traces", "traces"), ("calls", "calls"), ("dirts", "dirts")]:
            file = importlib.import_module(f"swornlots.{module}")
            self.assertTrue(inspect.isgeneratorfunction(vars(file)[name]))

    def test_keywords(self):
        file = importlib.import_module("swornlots.washing")
        for name in ("washing_of", "judge_worths"):
            told = inspect.signature(vars(file)[name]).parameters
            self.assertEqual([told[word].kind for word in ("ties", "prices")], [inspect.Parameter.KEYWORD_ONLY] * 2)
            self.assertEqual((told["ties"].default, told["prices"].default), ((), inspect.Parameter.empty))

    def test_every_file_of_the_document_is_there(self):
        for module in {**FUNCTIONS, **CLASSES}:
            importlib.import_module(f"swornlots.{module}")

    def test_classes(self):
        for module, classes in CLASSES.items():
            file = importlib.import_module(f"swornlots.{module}")
            for name, (told, methods) in classes.items():
                made = vars(file)[name]
                self.assertEqual(made.__module__, f"swornlots.{module}")
                if told is not None:
                    self.assertEqual(parameters(made), told.split())
                for method in methods.split():
                    with self.subTest(f"{name}.{method}"):
                        self.assertIn(method, vars(made))
                for method, arguments in METHODS.get(name, {}).items():
                    self.assertEqual(parameters(getattr(made, method)), arguments.split(), method)
                for method in PROPERTIES.get(name, "").split():
                    self.assertIsInstance(vars(made)[method], property)


if __name__ == "__main__":
    unittest.main()
