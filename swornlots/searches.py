"""The search for answers that make formulas true, or for a proof that there are none.

Literals are put on a trail: those that are forced by what stands on it, and one decision after another. Where a
clash shows, it is traced back to the last decision, until it forces another literal further down the trail.
"""

from swornlots.forks import Forks, fork_of, literals_in, opposite_of, pieces_of
from swornlots.formulas import atoms_in
from swornlots.limits import Limits
from swornlots.proofs import Ask, Clash, Leaf
from swornlots.spans import Calendar


class Search:
    """The trail, with the reason and the level (the number of decisions) of each atom that has an answer.

    Of the literals of a clash that is kept, the first two are watched: it is looked at when one of them gets true.
    """

    def __init__(self, farms, formulas):
        numbers = {}
        for formula in formulas:
            for atom in atoms_in(formula):
                numbers.setdefault(atom, len(numbers))
        self.atoms = list(numbers)
        shares = {number: atom for atom, number in numbers.items() if atom[0] == "share"}
        self.truth = [None] * (2 * len(self.atoms))
        self.reasons = [None] * len(self.atoms)
        self.level_of = [0] * len(self.atoms)
        self.place_of = [0] * len(self.atoms)
        self.scores = [0] * len(self.atoms)
        self.worth = 1
        self.trail = []
        self.starts = []
        self.done = 0
        self.watching = [[] for _ in self.truth]
        self.limits = Limits(farms, shares)
        self.calendar = Calendar()
        self.forks = Forks(len(self.truth))
        self.pieces = []
        self.uses = [[] for _ in self.atoms]
        for number, formula in enumerate(formulas):
            for fork in pieces_of(fork_of(formula, True, numbers)):
                self.add_piece(number, fork)

    def add_piece(self, number, fork):
        """Adds a fork that must be true, as the formula of this number must be; None stands for one that is false."""
        if fork is False:
            self.pieces.append((number, None))
            return
        for atom in sorted({literal // 2 for literal in literals_in(fork)}):
            self.uses[atom].append(len(self.pieces))
        self.pieces.append((number, self.forks.include(fork, None)))

    def run(self):
        """None if the answers on the trail make all formulas true, otherwise a proof that no answers do."""
        for formula, fork in self.pieces:
            if fork is None:
                return Leaf("false", formula)
        clash = self.first_clash()
        while True:
            if clash is None:
                clash = self.clash_ahead()
            if clash is None:
                literal = self.choice()
                if literal is None:
                    return None
                self.starts.append(len(self.trail))
                self.put(literal, None)
                continue
            traced = self.traced(clash)
            if not traced.literals:
                return traced.proof
            self.keep(clash, traced)
            self.turn(traced)
            clash = None

    def first_clash(self):
        """The clash that shows in a formula without any decision, or None."""
        for number in range(len(self.pieces)):
            clash = self.clash_in(number)
            if clash is not None:
                return clash
        return None

    def clash_ahead(self):
        """Goes on along the trail, and tells a clash that comes of it, or None."""
        while self.done < len(self.trail):
            literal = self.trail[self.done]
            self.done += 1
            clash = self.clash_by_theory(literal)
            if clash is None:
                clash = self.clash_by_pieces(literal)
            if clash is None:
                clash = self.clash_by_kept(literal)
            if clash is not None:
                return clash
        return clash_of("prices", self.limits.settle())

    def put(self, literal, reason):
        """Puts a literal on the trail, with the clash that forces it, or None for a decision."""
        atom = literal // 2
        self.truth[literal], self.truth[opposite_of(literal)] = True, False
        self.reasons[atom] = reason
        self.level_of[atom] = len(self.starts)
        self.place_of[atom] = len(self.trail)
        self.trail.append(literal)
        self.forks.tell(literal)

    def clash_by_theory(self, literal):
        """Tells shares and days of a literal; the clash that comes of it, or None."""
        atom = self.atoms[literal // 2]
        if atom[0] == "share":
            return clash_of("prices", self.limits.put(literal))
        if atom[0] == "days":
            return clash_of("ring", self.calendar.put(atom, literal & 1 == 1, literal))
        return None

    def clash_by_pieces(self, literal):
        """Looks at the pieces with the atom of a literal; the clash that comes of it, or None."""
        for number in self.uses[literal // 2]:
            clash = self.clash_in(number)
            if clash is not None:
                return clash
        return None

    def clash_in(self, number):
        """Puts what a piece forces on the trail; the clash if it is false, or None."""
        formula, fork = self.pieces[number]
        value = self.forks.known[fork]
        if value is False:
            return clash_against(formula, self.forks.reasons_against(fork))
        if value is None:
            for literal, because in self.forks.demands(fork, []):
                if self.truth[literal] is None:
                    self.put(literal, clash_against(formula, [*because, opposite_of(literal)]))
        return None

    def clash_by_kept(self, literal):
        """Looks at the clashes that watch a literal; one all of whose literals are true, or None."""
        staying = []
        found = None
        for clash in list(self.watching[literal]):
            if found is None and self.watches_another(clash, literal):
                continue
            staying.append(clash)
            if found is None:
                found = self.clash_if_whole(clash)
        self.watching[literal] = staying
        return found

    def watches_another(self, clash, literal):
        """Makes a clash watch another literal in the place of this one, if there is one that is not true."""
        literals = clash.literals
        if literals[0] == literal:
            literals[0], literals[1] = literals[1], literal
        for at in range(2, len(literals)):
            if self.truth[literals[at]] is not True:
                literals[1], literals[at] = literals[at], literal
                self.watching[literals[1]].append(clash)
                return True
        return False

    def clash_if_whole(self, clash):
        """The clash, all of whose literals but the first one are true, if that one is, too; otherwise it is forced."""
        first = clash.literals[0]
        if self.truth[first] is True:
            return clash
        if self.truth[first] is None:
            self.put(opposite_of(first), clash)
        return None

    def choice(self):
        """The wanted literal with the highest score for the next decision, None if all formulas are true."""
        result, most = None, -1
        for atom, score in enumerate(self.scores):
            if score > most and self.truth[2 * atom] is None:
                for literal in (2 * atom, 2 * atom + 1):
                    if self.forks.is_wanted(literal):
                        result, most = literal, score
        return result

    def traced(self, clash):
        """A clash with just one literal of the last decision, or, without any decision, with none at all."""
        level = len(self.starts)
        left = {literal: True for literal in clash.literals}
        last = len([one for one in left if self.level_of[one // 2] == level])
        proof = clash.proof
        self.worth = self.worth + self.worth // 8 + 1
        for literal in reversed(list(self.trail)):
            if literal not in left:
                continue
            if level > 0 and last == 1:
                break
            atom = literal // 2
            self.scores[atom] += self.worth
            reason = self.reasons[atom]
            del left[literal]
            more = [one for one in reason.literals if one not in left and one // 2 != atom]
            left.update({one: True for one in more})
            last = last - 1 + len([one for one in more if self.level_of[one // 2] == level])
            proof = Ask(atom, proof, reason.proof) if literal & 1 == 1 else Ask(atom, reason.proof, proof)
        return Clash(list(left), proof)

    def keep(self, clash, traced):
        """Keeps a new clash of shares or days, unless the traced one is the same."""
        if isinstance(clash.proof, Leaf) and clash.proof.word != "false" and clash.proof != traced.proof:
            if not clash.watches:
                self.watch(clash)

    def watch(self, clash):
        """Makes a clash watch its literals that came last; those that did not come yet are the last ones."""
        clash.literals = sorted(clash.literals, key=self.lateness)
        clash.watches = True
        if len(clash.literals) > 1:
            for literal in clash.literals[:2]:
                self.watching[literal].append(clash)

    def lateness(self, literal):
        """A number that is the less, the later the literal came."""
        return -len(self.trail) if self.truth[literal] is None else -self.place_of[literal // 2]

    def turn(self, clash):
        """Goes back to where a traced clash forces the opposite of its last literal, and puts it on the trail."""
        last = min(clash.literals, key=self.lateness)
        levels = [self.level_of[literal // 2] for literal in clash.literals if literal != last]
        self.go_back(max(levels, default=0))
        self.watch(clash)
        self.put(opposite_of(last), clash)

    def go_back(self, level):
        """Takes everything back behind so many decisions."""
        while len(self.trail) > self.starts[level]:
            literal = self.trail.pop()
            self.truth[literal], self.truth[opposite_of(literal)] = None, None
            self.forks.untell(literal)
            if len(self.trail) < self.done:
                self.take_back(literal)
        self.done = min(self.done, len(self.trail))
        del self.starts[level:]

    def take_back(self, literal):
        """Takes back what shares or days were told."""
        atom = self.atoms[literal // 2]
        if atom[0] == "share":
            self.limits.take_back()
        elif atom[0] == "days":
            self.calendar.take_back(atom, literal & 1 == 1)


def clash_against(formula, literals):
    """The clash of literals by which the formula of this number is false."""
    return Clash(list({literal: True for literal in literals}), Leaf("false", formula))


def clash_of(word, told):
    """The clash that prices or a ring of literals show, None for None."""
    return None if told is None else Clash(list(told), Leaf(word, told))
