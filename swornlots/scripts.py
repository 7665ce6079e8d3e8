"""The texts of recipes, in lines of words."""

from swornlots.claimtexts import number_told
from swornlots.deeds import GREATEST_PART
from swornlots.errors import BadLine
from swornlots.forms import is_name
from swornlots.recipes import MOST_NESTED, MOST_SLOTS, MOST_STEPS, MOST_TIMES, NESTING, STEP_FIELDS, Recipe


def lines_of(steps):
    """The lines of some steps."""
    return [line for step in steps for line in lines_of_step(step)]


def lines_of_step(step):
    """The lines of a step."""
    word = step[0]
    if word == "repeat":
        return ["repeat " + str(step[1]), *lines_of(step[2]), "end"]
    if word != "when":
        return [" ".join([str(part) for part in step])]
    rest = ["else", *lines_of(step[3])] if step[3] else []
    return ["when " + step[1], *lines_of(step[2]), *rest, "end"]


def write_recipe(recipe):
    """The lines of the text of a recipe."""
    return [" ".join(["recipe", *recipe.slots]), *lines_of(recipe.steps), "done"]


class Block:
    """What is open: its first word, what stands behind that, its steps, and those ahead of an `else`."""

    def __init__(self, word, told):
        self.word = word
        self.told = told
        self.steps = ()
        self.earlier = None

    def add_step(self, step):
        """Adds a step."""
        self.steps = (*self.steps, step)

    def turn(self):
        """Begins with what stands behind the `else`."""
        self.earlier = self.steps
        self.steps = ()

    def whole(self):
        """The step of a block that ends."""
        if self.word == "repeat":
            return ("repeat", self.told, self.steps)
        if self.earlier is None:
            return ("when", self.told, self.steps, ())
        return ("when", self.told, self.earlier, self.steps)


class ScriptReader:
    """Reads lines word by word; BadLine tells the first word that cannot stand."""

    def __init__(self, lines):
        self.texts = lines
        self.line = -1
        self.words = ()
        self.place = 0
        self.slots = ()
        self.blocks = [Block("recipe", None)]
        self.many = 0

    def next_line(self):
        """Goes on to the next line."""
        self.line += 1
        self.place = 0
        self.words = ()
        if self.line == len(self.texts):
            raise BadLine(self.line + 1, 1)
        self.words = self.texts[self.line].split(" ")

    def is_at_end(self):
        """Whether all words of the line are read."""
        return self.place == len(self.words)

    def expect(self, good):
        """Refuses the word that is read now, unless it is good."""
        if not good:
            raise BadLine(self.line + 1, self.place + 1)

    def now(self):
        """The word that is read now."""
        self.expect(not self.is_at_end())
        return self.words[self.place]

    def past(self, worth):
        """Goes behind a word that tells this worth, if there is one."""
        self.expect(worth is not None)
        self.place += 1
        return worth

    def read_head(self):
        """Reads the first line."""
        self.next_line()
        self.expect(self.now() == "recipe")
        self.place += 1
        while not self.is_at_end():
            word = self.now()
            self.expect(is_name(word) and word not in self.slots and len(self.slots) < MOST_SLOTS)
            self.slots = (*self.slots, self.past(word))

    def can_begin(self, word):
        """Whether a line can begin with the word."""
        block = self.blocks[-1]
        if word in NESTING:
            # At least one step must have room in it.
            return self.many + 1 < MOST_STEPS and len(self.blocks) <= MOST_NESTED
        if word in STEP_FIELDS:
            return self.many < MOST_STEPS and (word != "take" or self.slots != ())
        if word == "else":
            return block.word == "when" and block.earlier is None and self.many < MOST_STEPS
        if block.steps == ():
            return False
        return word == "done" if len(self.blocks) == 1 else word == "end"

    def read_field(self, field, before):
        """Reads the word of a field behind others."""
        word = self.now()
        if field == "slot":
            return self.past(word if word in self.slots else None)
        if field == "vessel":
            return self.past(word if is_name(word) and word not in before else None)
        most = GREATEST_PART if field == "n" else MOST_TIMES
        number = number_told(word)
        return self.past(number if number is not None and 1 <= number <= most else None)

    def read_step(self, word):
        """Reads the rest of a line that begins a step."""
        told = ()
        for field in STEP_FIELDS[word]:
            if field != "steps":
                # Only a `move` has two vessels, which must differ.
                before = told if word == "move" else ()
                told = (*told, self.read_field(field, before))
        self.expect(self.is_at_end())
        self.many += 1
        if word in NESTING:
            self.blocks.append(Block(word, told[0]))
        else:
            self.blocks[-1].add_step((word, *told))

    def read_line(self):
        """Reads a line behind the first one, and tells its first word."""
        self.next_line()
        word = self.now()
        self.expect(self.can_begin(word))
        self.place += 1
        if word in STEP_FIELDS:
            self.read_step(word)
            return word
        self.expect(self.is_at_end())
        if word == "else":
            self.blocks[-1].turn()
        elif word == "end":
            step = self.blocks.pop().whole()
            self.blocks[-1].add_step(step)
        return word

    def read_all(self):
        """Reads all lines."""
        self.read_head()
        while self.read_line() != "done":
            pass
        self.line += 1
        self.place = 0
        self.expect(self.line == len(self.texts))
        return Recipe(self.slots, self.blocks[0].steps)


def read_recipe(lines):
    """The recipe of a text."""
    return ScriptReader(lines).read_all()
