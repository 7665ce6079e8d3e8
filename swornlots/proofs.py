"""Why literals cannot all be true, and the closed trees that tell it."""

from swornlots.ratios import ONE, ZERO, opposite, plus, times


class Leaf:
    """What shows by itself that literals clash: a false formula, prices or a ring; and the prices of the lots' rows."""

    def __init__(self, word, told):
        self.word = word
        self.told = told
        self.base = None


class Ask:
    """An atom, by its number, with what shows the rest for either answer."""

    def __init__(self, atom, yes, no):
        self.atom = atom
        self.yes = yes
        self.no = no


class Clash:
    """Literals that cannot all be true, and a Leaf or an Ask that shows it; and whether it watches literals."""

    def __init__(self, literals, proof):
        self.literals = literals
        self.proof = proof
        self.watches = False


class Grower:
    """Makes closed trees of proofs. No atom is asked twice on a way, as an answer on the way is followed."""

    def __init__(self, farms, lots, atoms):
        self.farms = farms
        self.for_lots = lots
        self.atoms = atoms
        self.answers = {}

    def grown(self, proof):
        """The closed tree of a proof of which no literals are left."""
        built = []
        todo = [("enter", proof)]
        while todo:
            step, told = todo.pop()
            if step == "enter":
                self.enter(self.followed(told), built, todo)
            elif step == "turn":
                self.answers[told] = False
            else:
                del self.answers[told]
                no, yes = built.pop(), built.pop()
                built.append(("ask", self.atoms[told], yes, no))
        return built[0]

    def followed(self, proof):
        """The first proof, from this one on, that does not ask what was answered."""
        while isinstance(proof, Ask) and proof.atom in self.answers:
            proof = proof.yes if self.answers[proof.atom] else proof.no
        return proof

    def enter(self, proof, built, todo):
        """Builds a leaf, or asks and leaves the two trees to do."""
        if isinstance(proof, Leaf):
            built.append(self.leaf_tree(proof))
            return
        atom = proof.atom
        self.answers[atom] = True
        todo.extend([("join", atom), ("enter", proof.no), ("turn", atom), ("enter", proof.yes)])

    def leaf_tree(self, leaf):
        """The tree of a leaf behind the answers."""
        if leaf.word == "false":
            return ("false", leaf.told)
        if leaf.word == "ring":
            return ("ring", self.ring_numbers(leaf.told))
        if leaf.base is None:
            leaf.base = self.base_prices(leaf.told)
        prices = [leaf.told.get(2 * atom + (1 if answer else 0), ZERO)
                  for atom, answer in self.answers.items() if self.atoms[atom][0] == "share"]
        return ("prices", tuple([*leaf.base, *prices]))

    def ring_numbers(self, literals):
        """The numbers that the ties of literals have on the way, with the least one first."""
        asked = [atom for atom in self.answers if self.atoms[atom][0] == "days"]
        numbers = [asked.index(literal // 2) for literal in literals]
        at = numbers.index(min(numbers))
        return tuple(numbers[at:] + numbers[:at])

    def base_prices(self, told):
        """The prices of the rows of all lots that leave no parts beside those of literals, at the least bound."""
        sums = {}
        for literal, price in told.items():
            sign = ONE if literal & 1 == 0 else (-1, 1)
            for unknown, fraction in self.atoms[literal // 2][1]:
                sums[unknown] = plus(sums.get(unknown, ZERO), times(fraction, times(sign, price)))
        result = []
        for lot in self.for_lots:
            worths = [sums.get((lot, farm), ZERO) for farm in self.farms]
            least = worths[0]
            for worth in worths:
                if plus(worth, opposite(least))[0] < 0:
                    least = worth
            result.extend([plus(worth, opposite(least)) for worth in worths])
            result.append(opposite(least))
        return result


def leaves_of(proof):
    """A list of all leaves of a proof, each once."""
    seen = {proof: True}
    todo = [proof]
    result = []
    while todo:
        told = todo.pop()
        if isinstance(told, Leaf):
            result.append(told)
            continue
        for below in (told.yes, told.no):
            if below not in seen:
                seen[below] = True
                todo.append(below)
    return result
