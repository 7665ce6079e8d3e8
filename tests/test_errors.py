"""The errors: names, arguments, attributes, base class."""

import unittest

from swornlots import errors

TOLD = {
    "BadFraction": ["value"], "BadPlant": ["part"], "BadDeed": ["deed"], "TooMany": ["kind"],
    "NoThing": ["name"], "Known": ["name"], "Empty": ["name"], "Short": ["name"], "Full": ["name"],
    "BadRow": ["number"], "Strict": ["number"], "Shut": ["prices"], "BadClause": ["number"],
    "BadTie": ["number"], "NoAnswers": ["tree"], "NoDays": ["ring"], "NoLot": ["name"],
    "BadWorld": ["place"], "BadFormula": ["formula"], "BadPaper": ["paper"], "NoPaper": ["number"],
    "Quarrel": ["numbers"], "NoClaim": ["claim"], "BadClaim": ["word"], "Unknown": ["name"],
    "Sent": ["box"], "Bare": ["box"], "Called": ["box"], "Unsure": ["box", "world"],
    "BadName": ["name"], "BadTest": ["number"], "NoWorld": ["tree"], "BadRecipe": ["step"],
    "NoBox": ["many"], "Unrested": ["vessel"], "Unlike": ["vessel"], "BadNeed": ["slot"],
    "BadPledge": ["vessel"], "BadMenu": ["entry"], "Unplain": ["word"], "BadOrder": ["order"],
    "BadLine": ["line", "place"], "BadText": ["place"], "BadAct": ["line"], "Refused": ["line", "word"],
}


class Errors(unittest.TestCase):
    def test_base(self):
        self.assertEqual(errors.LotError.__bases__, (ValueError,))

    def test_all_are_there_and_no_others(self):
        classes = {name for name, thing in vars(errors).items() if isinstance(thing, type)}
        self.assertEqual(classes, set(TOLD) | {"LotError"})

    def test_each(self):
        for name, arguments in TOLD.items():
            with self.subTest(name):
                made = getattr(errors, name)
                self.assertEqual(made.__bases__, (errors.LotError,))
                values = [object() for _ in arguments]
                error = made(*values)
                for argument, value in zip(arguments, values):
                    self.assertIs(getattr(error, argument), value)
                by_name = made(**dict(zip(arguments, values)))
                self.assertIs(getattr(by_name, arguments[0]), values[0])
                self.assertEqual(error.class_name, name)
                with self.assertRaises(TypeError):
                    made()


if __name__ == "__main__":
    unittest.main()
