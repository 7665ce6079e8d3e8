"""Recipes: steps that are done again and again, on other lots each time."""

from swornlots.deeds import GREATEST_PART
from swornlots.errors import BadRecipe, NoBox, TooMany
from swornlots.forms import is_name, is_whole_within
from swornlots.plants import are_names

MOST_SLOTS = 4
MOST_STEPS = 40
MOST_NESTED = 3
MOST_TIMES = 20
LONGEST_ROW = 100

# What stands behind the first word of a step.
STEP_FIELDS = {
    "take": ("slot", "vessel", "n"),
    "move": ("vessel", "vessel", "n"),
    "drain": ("vessel",),
    "wash": ("vessel",),
    "pack": ("vessel", "n"),
    "repeat": ("times", "steps"),
    "when": ("vessel", "steps", "steps"),
}
NESTING = ("repeat", "when")


def fits_step_field(slots, field, thing):
    """Whether the thing can stand in a field by itself; the steps in it are looked at elsewhere."""
    if field == "slot":
        return isinstance(thing, str) and thing in slots
    if field == "n":
        return is_whole_within(thing, 1, GREATEST_PART)
    if field == "times":
        return is_whole_within(thing, 1, MOST_TIMES)
    return isinstance(thing, tuple) if field == "steps" else is_name(thing)


def is_step(slots, thing):
    """Whether the thing is a step, whatever the steps in it are."""
    if not isinstance(thing, tuple) or not thing or not isinstance(thing[0], str) or thing[0] not in STEP_FIELDS:
        return False
    fields = STEP_FIELDS[thing[0]]
    if len(thing) != len(fields) + 1:
        return False
    if not all([fits_step_field(slots, field, told) for field, told in zip(fields, thing[1:])]):
        return False
    if thing[0] in NESTING:
        return steps_in(thing) != ()
    return thing[0] != "move" or thing[1] != thing[2]


def steps_in(step):
    """The steps that stand directly in a step."""
    if step[0] == "repeat":
        return step[2]
    return step[2] + step[3] if step[0] == "when" else ()


def bad_step(slots, steps):
    """The number of the first step that cannot stand, as it is written, or None."""
    if len(steps) == 0:
        return 0
    number = 0
    todo = [(step, 0) for step in reversed(list(steps))]
    while todo:
        step, depth = todo.pop()
        if number == MOST_STEPS or not is_step(slots, step):
            return number
        if step[0] in NESTING and depth == MOST_NESTED:
            return number
        todo.extend([(inner, depth + 1) for inner in reversed(list(steps_in(step)))])
        number = number + 1
    return None


def packs_in(steps):
    """How many `pack` are written in the steps."""
    return sum([1 if step[0] == "pack" else packs_in(steps_in(step)) for step in steps])


class Run:
    """A run of a recipe: the stock on which it is done, the lots of the slots, names for boxes, and its row."""

    def __init__(self, stock, lots, boxes):
        self.stock = stock
        self.filled = lots
        self.boxes = boxes
        self.packed = 0
        self.row = []

    def do_all(self, steps):
        """Does the steps in order."""
        for step in steps:
            self.do_step(step)

    def do_step(self, step):
        """Does one step."""
        word = step[0]
        if word == "repeat":
            for _ in range(step[1]):
                self.do_all(step[2])
        elif word == "when":
            self.do_all(step[2] if self.stock.clean(step[1]) else step[3])
        else:
            self.do_deed(step)

    def do_deed(self, step):
        """Does the deed of a step."""
        if len(self.row) >= LONGEST_ROW:
            raise TooMany("step")
        deed = step
        if step[0] == "take":
            deed = ("take", self.filled[step[1]], *step[2:])
        elif step[0] == "pack":
            deed = ("pack", step[1], self.next_box(), step[2])
        self.stock.do(deed)
        self.row.append(deed)

    def next_box(self):
        """The next name for a box."""
        if self.packed == len(self.boxes):
            raise NoBox(self.packed)
        self.packed += 1
        return self.boxes[self.packed - 1]


class Recipe:
    """Slots for lots, and steps; a call runs it on a stock."""

    def __init__(self, slots, steps):
        if not are_names(slots, 0, MOST_SLOTS):
            raise BadRecipe(-1)
        number = bad_step(slots, steps)
        if number is not None:
            raise BadRecipe(number)
        self.slots = tuple(slots)
        self.steps = tuple(steps)

    @property
    def packs(self):
        """How many `pack` are written in it."""
        return packs_in(self.steps)

    def __eq__(self, other):
        return isinstance(other, Recipe) and self.slots == other.slots and self.steps == other.steps

    def __call__(self, stock, lots, boxes):
        # The stock itself changes only when all is done, so an error leaves it as it was.
        run = Run(stock.copy(), dict(zip(self.slots, lots)), boxes)
        run.do_all(self.steps)
        stock.moment = run.stock.moment
        return tuple(run.row)


def row_of(recipe, stock, lots, boxes):
    """The row of a run of the recipe; the stock stays as it was."""
    return recipe(stock.copy(), lots, boxes)
