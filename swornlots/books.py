"""The books of houses: lines that tell a house from its beginning, act by act."""

from swornlots.errors import BadAct, BadLine, BadText, LotError, Refused
from swornlots.houses import House, is_act
from swornlots.plaintexts import read_plain, write_plain
from swornlots.plants import Plant


def write_book(house):
    """The lines of the book of a house."""
    plant = house.plant
    told = [("plant", plant.farms, plant.traits, plant.vessels)]
    if house.opening is not None:
        told.append(("opening", *house.opening))
    return [write_plain(value) for value in (*told, *house.acts)]


def is_line_of(value, word, many):
    """Whether the value is a tuple with this first word and so many items more."""
    return isinstance(value, tuple) and len(value) == many + 1 and value[0] == word


def line_value(lines, number):
    """The value of the line with this number, from 0."""
    try:
        return read_plain(lines[number])
    except BadText as error:
        raise BadLine(number + 1, error.place) from None


def house_begun(value):
    """The house of the first line."""
    if not is_line_of(value, "plant", 3):
        raise BadAct(1)
    try:
        return House(Plant(value[1], value[2], value[3]))
    except LotError as error:
        raise Refused(1, error.class_name) from None


def house_opened(plant, value):
    """The house of a plant and an opening, which is the second line."""
    try:
        return House.opened(plant, value[1], value[2])
    except LotError as error:
        raise Refused(2, error.class_name) from None


def do_line(house, number, value):
    """Does the act of a line with this number, from 0, in the house."""
    if not is_act(value):
        raise BadAct(number + 1)
    try:
        house.act(value)
    except LotError as error:
        raise Refused(number + 1, error.class_name) from None


def read_book(lines):
    """The house of a book."""
    if len(lines) == 0:
        raise BadAct(1)
    house = house_begun(line_value(lines, 0))
    for number in range(1, len(lines)):
        value = line_value(lines, number)
        if number == 1 and is_line_of(value, "opening", 2):
            house = house_opened(house.plant, value)
        else:
            do_line(house, number, value)
    return house


class Book:
    """The book of a house, with which it goes on."""

    def __init__(self, house):
        self.house = house

    def act(self, act):
        """Does an act in the house and returns what the house returns."""
        return self.house.act(act)

    @property
    def lines(self):
        """The lines up to now."""
        return write_book(self.house)

    def with_acts(self, acts):
        """The book of a copy of the house in which these acts were done."""
        house = self.house.copy()
        for act in acts:
            house.act(act)
        return Book(house)

    def __len__(self):
        return len(self.lines)

    def __contains__(self, x):
        return x in self.lines

    def __eq__(self, other):
        return isinstance(other, Book) and self.lines == other.lines
