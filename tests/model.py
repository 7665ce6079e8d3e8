"""A plain model of a stock, written a second time from the document, to hold the program against.

It reckons with Fraction, holds units of lots in place of shares, and refuses deeds by the name of an error.
"""

from fractions import Fraction

from swornlots.errors import LotError
from swornlots.stocks import Stock


class Model:
    def __init__(self, vessels):
        self.size = {name: size for name, size, keep in vessels}
        self.keep = {name: keep for name, size, keep in vessels}
        self.units = {name: {} for name in self.size}
        self.touched = {name: set() for name in self.size}
        self.boxes = []
        self.samples = {}
        self.lots = []
        self.used = set()
        self.taken, self.thrown, self.spent = {}, {}, {}
        self.deeds = []

    def amount(self, place):
        return sum(self.units[place].values())

    def refusal(self, deed):
        """The name of the class of the error and its argument, or None, for a deed of a good form."""
        word, names = deed[0], [x for x in deed[1:] if isinstance(x, str)]
        n = deed[-1] if isinstance(deed[-1], int) else None
        if len(self.deeds) == 200:
            return ("TooMany", "deed")
        vessels, boxes = set(self.size), set(self.boxes)
        need = {
            "take": [(1, vessels)], "move": [(0, vessels), (1, vessels)], "drain": [(0, vessels)],
            "wash": [(0, vessels)], "pack": [(0, vessels)], "part": [(0, boxes)],
            "open": [(0, boxes), (1, vessels)], "end": [(0, boxes)], "sample": [(0, vessels | boxes)],
            "forget": [(0, set(self.samples))],
        }[word]
        for at, there in need:
            if names[at] not in there:
                return ("NoThing", names[at])
        if word == "take" and names[0] not in self.lots and names[0] in self.used | vessels:
            return ("Known", names[0])
        if word in ("pack", "part", "sample") and names[1] in self.used | vessels:
            return ("Known", names[1])
        if word == "take" and names[0] not in self.lots and len(self.lots) == 12:
            return ("TooMany", "lot")
        if word in ("pack", "part") and len(self.boxes) == 16:
            return ("TooMany", "box")
        if word == "sample" and len(self.samples) == 12:
            return ("TooMany", "sample")
        if word == "sample" and self.amount(names[0]) == 0:
            return ("Empty", names[0])
        if word in ("move", "pack") and n > max(0, self.amount(names[0]) - self.keep[names[0]]):
            return ("Short", names[0])
        if word == "part" and n > self.amount(names[0]) - 1:
            return ("Short", names[0])
        if word in ("take", "move", "open"):
            more = self.amount(names[0]) if word == "open" else n
            if self.amount(names[1]) + more > self.size[names[1]]:
                return ("Full", names[1])
        return None

    def out_of(self, place, n):
        """Takes n units away from a place; what went, by lots."""
        whole = self.amount(place)
        if whole == 0:
            return {}
        gone = {lot: units * n / whole for lot, units in self.units[place].items()}
        self.units[place] = {lot: units - gone[lot] for lot, units in self.units[place].items() if units != gone[lot]}
        return {lot: units for lot, units in gone.items() if units}

    def into(self, place, stuff, touched):
        held = self.units.setdefault(place, {})
        for lot, units in stuff.items():
            held[lot] = held.get(lot, Fraction(0)) + units
        self.touched.setdefault(place, set()).update(touched)

    def lose(self, stuff, column):
        for lot, units in stuff.items():
            column[lot] += units

    def drop(self, box):
        self.boxes.remove(box)
        del self.units[box]
        del self.touched[box]

    def do(self, deed):
        word = deed[0]
        if word == "take":
            _, lot, vessel, n = deed
            if lot not in self.lots:
                self.lots.append(lot)
                self.used.add(lot)
                self.taken[lot] = self.thrown[lot] = self.spent[lot] = Fraction(0)
            self.taken[lot] += n
            self.into(vessel, {lot: Fraction(n)}, {lot})
        elif word == "move":
            self.into(deed[2], self.out_of(deed[1], deed[3]), self.touched[deed[1]])
        elif word == "drain":
            self.lose(self.out_of(deed[1], max(0, self.amount(deed[1]) - self.keep[deed[1]])), self.thrown)
        elif word == "wash":
            self.lose(self.out_of(deed[1], self.amount(deed[1])), self.thrown)
            self.touched[deed[1]] = set()
        elif word in ("pack", "part"):
            self.boxes.append(deed[2])
            self.used.add(deed[2])
            self.into(deed[2], self.out_of(deed[1], deed[3]), self.touched[deed[1]])
        elif word == "open":
            self.into(deed[2], self.out_of(deed[1], self.amount(deed[1])), self.touched[deed[1]])
            self.drop(deed[1])
        elif word == "end":
            self.lose(self.out_of(deed[1], self.amount(deed[1])), self.spent)
            self.drop(deed[1])
        elif word == "sample":
            self.samples[deed[2]] = (self.mix(deed[1]), self.touch(deed[1]))
            self.used.add(deed[2])
        elif word == "forget":
            del self.samples[deed[1]]
        self.deeds.append(deed)

    def mix(self, place):
        whole = self.amount(place)
        shares = {lot: units / whole for lot, units in self.units[place].items()}
        return tuple((lot, (shares[lot].numerator, shares[lot].denominator)) for lot in sorted(shares))

    def touch(self, place):
        return tuple(sorted(self.touched[place]))

    def state(self):
        def pair(f):
            return (f.numerator, f.denominator)

        return (
            tuple((int(self.amount(v)), self.mix(v), self.touch(v)) for v in self.size),
            tuple((l, pair(self.taken[l]), pair(self.thrown[l]), pair(self.spent[l])) for l in self.lots),
            tuple((b, int(self.amount(b)), self.mix(b), self.touch(b)) for b in self.boxes),
            tuple((s, *content) for s, content in self.samples.items()),
            tuple(sorted(self.used)),
        )


def random_deed(random, stock, lots=("l1", "l2", "l3"), most=12):
    """A deed that often, but not always, can be done on the stock."""
    vessels = list(stock.plant)
    boxes = list(stock.box_names()) or ["b0"]
    samples = list(stock.sample_names()) or ["s0"]
    new = "x%d" % random.randrange(400)
    n = random.randint(1, most)
    word = random.choice(
        ["take"] * 3 + ["move"] * 4 + ["pack"] * 3 + ["part"] * 2 + ["open"] * 2
        + ["drain", "wash", "end", "sample", "sample", "forget"])
    if word == "take":
        return (word, random.choice(lots), random.choice(vessels), n)
    if word == "move":
        pair = random.sample(vessels, 2) if len(vessels) > 1 else [vessels[0], "nowhere"]
        return (word, pair[0], pair[1], n)
    if word in ("drain", "wash"):
        return (word, random.choice(vessels))
    if word == "pack":
        return (word, random.choice(vessels), new, n)
    if word == "part":
        return (word, random.choice(boxes), new, n)
    if word == "open":
        return (word, random.choice(boxes), random.choice(vessels))
    if word == "end":
        return (word, random.choice(boxes))
    if word == "sample":
        return (word, random.choice(vessels + boxes), new)
    return (word, random.choice(samples))


def some_deeds(random, stock, most):
    """Does up to so many random deeds of two lots; those that are refused are left out."""
    for _ in range(most):
        try:
            stock.do(random_deed(random, stock, lots=("l1", "l2")))
        except LotError:
            pass


def stock_of(plant, deeds):
    """A stock of the plant that has done these deeds."""
    stock = Stock(plant)
    for deed in deeds:
        stock.do(deed)
    return stock
