"""The texts of claims."""

from swornlots.claimforms import LAST_DAY, check_claim_tree
from swornlots.errors import BadClaim
from swornlots.forms import is_name
from swornlots.ratios import lowest

MOST_DIGITS = 9
DIGITS = "0123456789"


def number_told(word):
    """The integer that the word tells, or None."""
    if not 1 <= len(word) <= MOST_DIGITS or not all([sign in DIGITS for sign in word]):
        return None
    if word[0] == "0" and word != "0":
        return None
    return int(word)


def share_told(word):
    """The share that the word tells, or None."""
    above, _, below = word.partition("/")
    first, second = number_told(above), number_told(below)
    if first is None or second is None or second < 1 or first > second:
        return None
    return lowest(first, second)


def day_told(word):
    """The day that the word tells, or None."""
    day = number_told(word)
    return None if day is None or day > LAST_DAY else day


class Bracket:
    """What stands in an open bracket, or in the whole text: the terms and factors that are done, and each `not`."""

    def __init__(self):
        self.terms = None
        self.factors = None
        self.nots = 0

    def add_factor(self, claim):
        """Adds a factor behind its `not`s."""
        for _ in range(self.nots):
            claim = ("not", claim)
        self.nots = 0
        self.factors = claim if self.factors is None else ("and", self.factors, claim)

    def whole(self):
        """The claim of all that stands there."""
        return self.factors if self.terms is None else ("or", self.terms, self.factors)

    def end_term(self):
        """Makes room for the next term."""
        self.terms = self.whole()
        self.factors = None


class Reader:
    """Reads the words of a text from the first to the last; BadClaim tells the first that cannot stand."""

    def __init__(self, words):
        self.words = words
        self.place = 0
        self.brackets = [Bracket()]

    def is_at_end(self):
        """Whether all words are read."""
        return self.place == len(self.words)

    def now(self):
        """The word that is read now."""
        if self.is_at_end():
            raise BadClaim(self.place + 1)
        return self.words[self.place]

    def expect(self, good):
        """Goes behind a word, if it is good."""
        if not good:
            raise BadClaim(self.place + 1)
        self.place += 1

    def read_name(self):
        """Reads a name."""
        word = self.now()
        self.expect(is_name(word))
        return word

    def past(self, worth):
        """Goes behind a word that tells this worth, if there is one."""
        self.expect(worth is not None)
        return worth

    def read_farms(self):
        """Reads one or more different names."""
        farms = [self.read_name()]
        while not self.is_at_end() and is_name(self.now()) and self.now() not in farms:
            farms.append(self.read_name())
        return tuple(sorted(farms))

    def read_plain(self):
        """Reads one of the claims that have no claims in them."""
        word = self.now()
        self.expect(word in ("free", "untouched", "least", "most", "since", "until", "single"))
        if word in ("free", "untouched"):
            return (word, self.read_name())
        if word in ("least", "most"):
            share = self.past(share_told(self.now()))
            self.expect(self.now() == "of")
            return (word, share, self.read_farms())
        if word in ("since", "until"):
            return (word, self.past(day_told(self.now())))
        return (word,)

    def read_factor(self):
        """Reads on to the end of a factor without brackets, through each `not` and open bracket ahead of it."""
        while self.now() in ("not", "("):
            if self.now() == "not":
                self.brackets[-1].nots += 1
            else:
                self.brackets.append(Bracket())
            self.place += 1
        self.brackets[-1].add_factor(self.read_plain())

    def read_closing(self):
        """Reads the closing brackets that stand behind a factor."""
        while not self.is_at_end() and self.now() == ")" and len(self.brackets) > 1:
            claim = self.brackets.pop().whole()
            self.brackets[-1].add_factor(claim)
            self.place += 1

    def read_all(self):
        """Reads all words."""
        self.read_factor()
        self.read_closing()
        while not self.is_at_end():
            word = self.now()
            self.expect(word in ("and", "or"))
            if word == "or":
                self.brackets[-1].end_term()
            self.read_factor()
            self.read_closing()
        if len(self.brackets) > 1:
            raise BadClaim(self.place + 1)
        return self.brackets[0].whole()


def read_claim(text):
    """The claim of a text."""
    return Reader(text.split(" ")).read_all()


def share_text(share):
    """The text of a share."""
    return str(share[0]) + "/" + str(share[1])


def bracketed(claim, words):
    """The least text of a claim, in brackets if its first word is one of these."""
    text = text_of(claim)
    return "( " + text + " )" if claim[0] in words else text


def text_of(claim):
    """The least text of a claim."""
    word = claim[0]
    if word in ("least", "most"):
        return " ".join([word, share_text(claim[1]), "of", *claim[2]])
    if word == "not":
        return "not " + bracketed(claim[1], ("and", "or"))
    if word == "and":
        return bracketed(claim[1], ("or",)) + " and " + bracketed(claim[2], ("and", "or"))
    if word == "or":
        return text_of(claim[1]) + " or " + bracketed(claim[2], ("or",))
    return " ".join([str(part) for part in claim])


def write_claim(tree):
    """The least text of a claim."""
    check_claim_tree(tree)
    return text_of(tree)
