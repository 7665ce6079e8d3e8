"""Plain values, such as acts are made of, and their texts."""

from swornlots.errors import BadText
from swornlots.forms import LETTERS, SIGNS

DIGITS = "0123456789"
MOST_SIGNS = 12
MOST_PLAIN_DIGITS = 4000
MOST_TUPLES = 60
WORDS = {"yes": True, "no": False, "none": None}


def write_plain(value):
    """The text of a plain value."""
    if isinstance(value, tuple):
        return "(" + " ".join([write_plain(item) for item in value]) + ")"
    if isinstance(value, bool):
        return "yes" if value else "no"
    if value is None:
        return "none"
    return "-" if value == "" else str(value)


class PlainReader:
    """Reads a text sign by sign; the tuples that are open are lists of their items, in a list of all values."""

    def __init__(self, text):
        self.text_read = text
        self.place = 0
        self.held = [[]]

    def sign(self):
        """The sign that is read now, "" behind the last one."""
        return self.text_read[self.place:self.place + 1]

    def is_in(self, signs):
        """Whether there is a sign now, and it is one of these."""
        return self.sign() != "" and self.sign() in signs

    def expect(self, good):
        """Refuses the sign that is read now, unless it is good."""
        if not good:
            raise BadText(self.place)

    def read_signs(self, signs, most):
        """Reads on while there are such signs, at most so many, and tells them."""
        start = self.place
        while self.is_in(signs) and self.place < start + most:
            self.place += 1
        return self.text_read[start:self.place]

    def read_integer(self):
        """Reads an integer, or the sign that stands for an empty string."""
        below = self.sign() == "-"
        if below:
            self.place += 1
            if not self.is_in(DIGITS):
                return ""
            self.expect(self.sign() != "0")
        if self.sign() == "0":
            self.place += 1
            return 0
        number = int(self.read_signs(DIGITS, MOST_PLAIN_DIGITS))
        return -number if below else number

    def read_word(self):
        """Reads a word, which perhaps stands for what is no string."""
        word = self.read_signs(SIGNS, MOST_SIGNS)
        return WORDS[word] if word in WORDS else word

    def read_value(self):
        """Reads the beginning of a tuple, or all of another value."""
        if self.sign() == "(":
            self.expect(len(self.held) <= MOST_TUPLES)
            self.place += 1
            self.held.append([])
            if self.sign() == ")":
                return
            self.read_value()
            return
        self.expect(self.is_in(LETTERS) or self.is_in(DIGITS) or self.sign() == "-")
        value = self.read_word() if self.is_in(LETTERS) else self.read_integer()
        self.held[-1].append(value)

    def close(self):
        """Reads the end of a tuple."""
        self.expect(self.sign() == ")")
        self.place += 1
        value = tuple(self.held.pop())
        self.held[-1].append(value)

    def read_all(self):
        """Reads the whole text."""
        self.read_value()
        while len(self.held) > 1:
            if self.sign() == " ":
                self.place += 1
                self.read_value()
            else:
                self.close()
        self.expect(self.sign() == "")
        return self.held[0][0]


def read_plain(text):
    """The plain value of a text."""
    return PlainReader(text).read_all()
