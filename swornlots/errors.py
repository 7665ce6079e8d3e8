"""All errors of the program. Each tells its own class in `class_name`."""


class LotError(ValueError):
    """What all errors of the program are."""


class BadFraction(LotError):
    """A thing that is no fraction, or zero where it cannot stand."""
    def __init__(self, value):
        self.value = value
        self.class_name = "BadFraction"


class BadPlant(LotError):
    """Farms, traits or vessels that no plant has."""
    def __init__(self, part):
        self.part = part
        self.class_name = "BadPlant"


class BadDeed(LotError):
    """A thing that is no deed."""
    def __init__(self, deed):
        self.deed = deed
        self.class_name = "BadDeed"


class TooMany(LotError):
    """More of a kind than there can be."""
    def __init__(self, kind):
        self.kind = kind
        self.class_name = "TooMany"


class NoThing(LotError):
    """A name of nothing that is there as what is due."""
    def __init__(self, name):
        self.name = name
        self.class_name = "NoThing"


class Known(LotError):
    """A name that was used before."""
    def __init__(self, name):
        self.name = name
        self.class_name = "Known"


class Empty(LotError):
    """A vessel without stuff."""
    def __init__(self, name):
        self.name = name
        self.class_name = "Empty"


class Short(LotError):
    """A place with less than is to be taken from it."""
    def __init__(self, name):
        self.name = name
        self.class_name = "Short"


class Full(LotError):
    """A vessel with too little room."""
    def __init__(self, name):
        self.name = name
        self.class_name = "Full"


class BadRow(LotError):
    """A thing that is no row of shares."""
    def __init__(self, number):
        self.number = number
        self.class_name = "BadRow"


class Strict(LotError):
    """A row with "<" where none can stand."""
    def __init__(self, number):
        self.number = number
        self.class_name = "Strict"


class Shut(LotError):
    """A system without a point."""
    def __init__(self, prices):
        self.prices = prices
        self.class_name = "Shut"


class BadClause(LotError):
    """A thing that is no clause."""
    def __init__(self, number):
        self.number = number
        self.class_name = "BadClause"


class BadTie(LotError):
    """A thing that is no tie of days."""
    def __init__(self, number):
        self.number = number
        self.class_name = "BadTie"


class NoAnswers(LotError):
    """A set of clauses without answers."""
    def __init__(self, tree):
        self.tree = tree
        self.class_name = "NoAnswers"


class NoDays(LotError):
    """A set of ties without days."""
    def __init__(self, ring):
        self.ring = ring
        self.class_name = "NoDays"


class NoLot(LotError):
    """A lot that is not there."""
    def __init__(self, name):
        self.name = name
        self.class_name = "NoLot"


class BadWorld(LotError):
    """A row that no world has."""
    def __init__(self, place):
        self.place = place
        self.class_name = "BadWorld"


class BadFormula(LotError):
    """A thing that is no formula."""
    def __init__(self, formula):
        self.formula = formula
        self.class_name = "BadFormula"


class BadPaper(LotError):
    """A thing that is no paper."""
    def __init__(self, paper):
        self.paper = paper
        self.class_name = "BadPaper"


class NoPaper(LotError):
    """A number of no paper that is in force."""
    def __init__(self, number):
        self.number = number
        self.class_name = "NoPaper"


class Quarrel(LotError):
    """Papers that no world makes true together."""
    def __init__(self, numbers):
        self.numbers = numbers
        self.class_name = "Quarrel"


class NoClaim(LotError):
    """A thing that is no claim."""
    def __init__(self, claim):
        self.claim = claim
        self.class_name = "NoClaim"


class BadClaim(LotError):
    """A text of no claim."""
    def __init__(self, word):
        self.word = word
        self.class_name = "BadClaim"


class Unknown(LotError):
    """A name that the plant does not have."""
    def __init__(self, name):
        self.name = name
        self.class_name = "Unknown"


class Sent(LotError):
    """A box that was sent to a customer."""
    def __init__(self, box):
        self.box = box
        self.class_name = "Sent"


class Bare(LotError):
    """A box without a label."""
    def __init__(self, box):
        self.box = box
        self.class_name = "Bare"


class Called(LotError):
    """A box that is called back."""
    def __init__(self, box):
        self.box = box
        self.class_name = "Called"


class Unsure(LotError):
    """A claim that is not sure on its box."""
    def __init__(self, box, world):
        self.box = box
        self.world = world
        self.class_name = "Unsure"


class BadName(LotError):
    """A thing that is no name."""
    def __init__(self, name):
        self.name = name
        self.class_name = "BadName"


class BadTest(LotError):
    """A thing that is no test."""
    def __init__(self, number):
        self.number = number
        self.class_name = "BadTest"


class NoWorld(LotError):
    """Tests that answer yes in no allowed world."""
    def __init__(self, tree):
        self.tree = tree
        self.class_name = "NoWorld"


class BadRecipe(LotError):
    """Slots or steps of no recipe."""
    def __init__(self, step):
        self.step = step
        self.class_name = "BadRecipe"


class NoBox(LotError):
    """A run that needs more names for boxes."""
    def __init__(self, many):
        self.many = many
        self.class_name = "NoBox"


class Unrested(LotError):
    """A vessel that is neither clean nor rests."""
    def __init__(self, vessel):
        self.vessel = vessel
        self.class_name = "Unrested"


class Unlike(LotError):
    """Two things that do not fit each other."""
    def __init__(self, vessel):
        self.vessel = vessel
        self.class_name = "Unlike"


class BadNeed(LotError):
    """A need that is none."""
    def __init__(self, slot):
        self.slot = slot
        self.class_name = "BadNeed"


class BadPledge(LotError):
    """A pledge that is none."""
    def __init__(self, vessel):
        self.vessel = vessel
        self.class_name = "BadPledge"


class BadMenu(LotError):
    """An entry that no menu has."""
    def __init__(self, entry):
        self.entry = entry
        self.class_name = "BadMenu"


class Unplain(LotError):
    """A claim that is not plain."""
    def __init__(self, word):
        self.word = word
        self.class_name = "Unplain"


class BadOrder(LotError):
    """A thing that is no order."""
    def __init__(self, order):
        self.order = order
        self.class_name = "BadOrder"


class BadLine(LotError):
    """A line that cannot be read."""
    def __init__(self, line, place):
        self.line = line
        self.place = place
        self.class_name = "BadLine"


class BadText(LotError):
    """A text of no plain value."""
    def __init__(self, place):
        self.place = place
        self.class_name = "BadText"


class BadAct(LotError):
    """A thing that is no act."""
    def __init__(self, line):
        self.line = line
        self.class_name = "BadAct"


class Refused(LotError):
    """An act of a book that is refused."""
    def __init__(self, line, word):
        self.line = line
        self.word = word
        self.class_name = "Refused"
