"""Formulas as they are searched: literals, and forks of them.

The literal 2 * k tells that atom k is answered no, 2 * k + 1 that it is answered yes. A fork is a literal, True,
False, or a pair of "and" or "or" and a tuple of forks, without any `not`.
"""


def opposite_of(literal):
    """The literal with the other answer."""
    return literal ^ 1


def joined(word, forks):
    """The forks joined by `and` or `or`: never with True or False among them, nor with the same word inside."""
    deciding = word == "or"
    parts = []
    for fork in forks:
        if isinstance(fork, bool):
            if fork == deciding:
                return deciding
        elif isinstance(fork, tuple) and fork[0] == word:
            parts.extend(fork[1])
        else:
            parts.append(fork)
    if len(parts) == 1:
        return parts[0]
    return (word, tuple(parts)) if parts else not deciding


def fork_of(formula, sense, numbers):
    """The fork of the formula, or of its opposite, by a dict with the number of each atom."""
    word = formula[0]
    if word == "not":
        return fork_of(formula[1], not sense, numbers)
    if len(formula) != 2:
        return 2 * numbers[formula] + (1 if sense else 0)
    if not sense:
        word = "or" if word == "and" else "and"
    return joined(word, [fork_of(part, sense, numbers) for part in formula[1]])


def pieces_of(fork):
    """The forks that must be true for this one to be true."""
    if isinstance(fork, tuple) and fork[0] == "and":
        return list(fork[1])
    return [] if fork is True else [fork]


def literals_in(fork):
    """A list of the literals in the fork."""
    if not isinstance(fork, tuple):
        return [fork]
    return [literal for part in fork[1] for literal in literals_in(part)]


class Forks:
    """Forks by numbers, each with the one around it, those in it, and its value, None as long as it is open.

    What a literal tells goes up from it as far as values change, and comes back the same way.
    """

    def __init__(self, many):
        self.words = []
        self.around = []
        self.inside = []
        self.counts = []
        self.known = []
        self.places = [[] for _ in range(many)]

    def include(self, fork, around):
        """Adds a fork with all that is in it, and tells its number."""
        number = len(self.words)
        self.words.append(fork[0] if isinstance(fork, tuple) else fork)
        self.around.append(around)
        self.inside.append([])
        self.counts.append({True: 0, False: 0})
        self.known.append(None)
        if isinstance(fork, tuple):
            self.inside[number] = [self.include(part, number) for part in fork[1]]
        else:
            self.places[fork].append(number)
        return number

    def tell(self, literal):
        """Tells that a literal is true."""
        for number in self.places[literal]:
            self.settle(number, True)
        for number in self.places[opposite_of(literal)]:
            self.settle(number, False)

    def untell(self, literal):
        """Takes back that a literal is true."""
        for number in self.places[literal] + self.places[opposite_of(literal)]:
            self.unsettle(number)

    def settle(self, number, value):
        """Sets the value of a fork, and of those around it that get the same value by it."""
        self.known[number] = value
        number = self.around[number]
        while number is not None:
            self.counts[number][value] += 1
            if self.known[number] is not None or not self.is_decided(number, value):
                return
            self.known[number] = value
            number = self.around[number]

    def unsettle(self, number):
        """Takes back the value of a fork, and of those around it that had the same value by it."""
        value = self.known[number]
        self.known[number] = None
        number = self.around[number]
        while number is not None:
            self.counts[number][value] -= 1
            if self.known[number] != value or self.is_decided(number, value):
                return
            self.known[number] = None
            number = self.around[number]

    def is_decided(self, number, value):
        """Whether a fork has this value by what is in it."""
        count = self.counts[number][value]
        if value == (self.words[number] == "or"):
            return count > 0
        return count == len(self.inside[number])

    def demands(self, number, because):
        """Pairs of a literal that must be true for an open fork to be true, as far as it shows, and of its reasons.

        The reasons are a list of true literals; they have those that this very fork must be true for.
        """
        word = self.words[number]
        if not isinstance(word, str):
            return [(word, because)]
        parts = self.inside[number]
        if word == "or":
            if len(parts) - self.counts[number][False] > 1:
                return []
            for part in parts:
                if self.known[part] is False:
                    because = because + self.reasons_against(part)
        return [pair for part in parts if self.known[part] is None for pair in self.demands(part, because)]

    def reasons_against(self, number):
        """A list of true literals by which alone a fork, which is false, is false."""
        word = self.words[number]
        if not isinstance(word, str):
            return [opposite_of(word)]
        if word == "or":
            return [literal for part in self.inside[number] for literal in self.reasons_against(part)]
        told = [self.reasons_against(part) for part in self.inside[number] if self.known[part] is False]
        return min(told, key=len)

    def is_wanted(self, literal):
        """Whether the literal, which is open, could help to make an open fork true that nothing is around."""
        return any([self.is_open_at(number) for number in self.places[literal]])

    def is_open_at(self, number):
        """Whether a fork and all those around it are open."""
        while number is not None:
            if self.known[number] is not None:
                return False
            number = self.around[number]
        return True
