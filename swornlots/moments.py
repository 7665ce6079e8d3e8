"""Moments: all that a stock holds between two deeds. A moment never changes; each deed makes a new one."""

from swornlots.contents import NOTHING, blend, only
from swornlots.ratios import ZERO, lowest, plus, times


class Moment:
    """What there is: dicts by names, the units of the lots, all names used, and the deeds done."""

    def __init__(self, vessels, boxes, samples, balance, used, done):
        self.vessels = vessels
        self.boxes = boxes
        self.samples = samples
        self.balance = balance
        self.used = used
        self.done = done

    def holding(self, name):
        """The pair of the amount and the content of a place, or None."""
        if name in self.vessels:
            return self.vessels[name]
        return self.boxes.get(name)

    def content(self, name):
        """The content of a vessel, box or sample, or None."""
        held = self.holding(name)
        if held is None:
            return self.samples.get(name)
        return held[1]


def first_moment(plant):
    """All vessels are clean, and there is nothing else."""
    return Moment({name: (0, NOTHING) for name in plant}, {}, {}, {}, {}, ())


def opened_moment(plant, state):
    """The moment of which the state tells, before any deed."""
    vessels, lots, boxes, samples, used = state
    return Moment(
        {name: (level, (mix, touched)) for name, (level, mix, touched) in zip(plant, vessels)},
        {box: (amount, (mix, touched)) for box, amount, mix, touched in boxes},
        {sample: (mix, touched) for sample, mix, touched in samples},
        {lot: (taken, thrown, spent) for lot, taken, thrown, spent in lots},
        {name: True for name in used},
        (),
    )


def state_of(moment):
    """The state: vessels, lots, boxes, samples and used names."""
    return (
        tuple([(level, mix, touched) for level, (mix, touched) in moment.vessels.values()]),
        tuple([(lot, *told) for lot, told in moment.balance.items()]),
        tuple([(box, amount, mix, touched) for box, (amount, (mix, touched)) in moment.boxes.items()]),
        tuple([(sample, mix, touched) for sample, (mix, touched) in moment.samples.items()]),
        tuple(sorted(moment.used)),
    )


class Draft:
    """A moment in the making: copies that one deed changes before they are shown as the next moment."""

    def __init__(self, before, plant):
        self.before = before
        self.plant = plant
        self.vessels = dict(before.vessels)
        self.boxes = dict(before.boxes)
        self.samples = dict(before.samples)
        self.balance = dict(before.balance)
        self.used = dict(before.used)

    def after(self, deed):
        """The moment behind the deed."""
        done = self.before.done + (deed,)
        return Moment(self.vessels, self.boxes, self.samples, self.balance, self.used, done)

    def take_in(self, lot, vessel, n):
        """Does a `take`."""
        self.used[lot] = True
        self.note(lot, 0, (n, 1))
        self.bring(vessel, n, only(lot))

    def keep_sample(self, thing, sample):
        """Does a `sample`."""
        self.used[sample] = True
        self.samples[sample] = self.before.content(thing)

    def carry(self, deed):
        """Does a deed that takes stuff off its source."""
        word, source = deed[0], deed[1]
        n = self.part_of(deed)
        mix, touched = self.before.content(source)
        if word in ("drain", "wash"):
            self.lose(mix, n, 1)
        if word == "end":
            self.lose(mix, n, 2)
        self.take_away(source, n)
        if word == "wash":
            self.vessels[source] = (0, NOTHING)
        if word in ("move", "pack", "part", "open"):
            self.bring(deed[2], n, (mix, touched))

    def part_of(self, deed):
        """The units that the deed takes off its source."""
        word, source = deed[0], deed[1]
        if word in ("move", "pack", "part"):
            return deed[3]
        amount = self.before.holding(source)[0]
        if word == "drain":
            return max(0, amount - self.plant[source][1])
        return amount

    def take_away(self, place, n):
        """Takes n units off a place; a box without stuff is gone."""
        amount, (mix, touched) = self.before.holding(place)
        if place in self.vessels:
            # An empty vessel has no mix, but stays touched.
            self.vessels[place] = (amount - n, (mix if amount > n else (), touched))
        elif amount > n:
            self.boxes[place] = (amount - n, (mix, touched))
        else:
            del self.boxes[place]

    def bring(self, place, n, content):
        """Brings n units of a content into a vessel, or into a new box."""
        if place not in self.vessels:
            self.boxes[place] = (n, content)
            self.used[place] = True
            return
        level, before = self.vessels[place]
        after = level + n
        mixed = blend([(lowest(level, after), before), (lowest(n, after), content)])
        self.vessels[place] = (after, mixed)

    def note(self, lot, column, units):
        """Adds units to what was taken (0), thrown away (1) or used up (2) of a lot."""
        told = list(self.balance.get(lot, (ZERO, ZERO, ZERO)))
        told[column] = plus(told[column], units)
        self.balance[lot] = tuple(told)

    def lose(self, mix, n, column):
        """Notes n units of a mix as thrown away (1) or used up (2)."""
        for lot, share in mix:
            self.note(lot, column, times((n, 1), share))


def moment_after(moment, plant, deed):
    """The moment behind a deed that nothing refuses."""
    draft = Draft(moment, plant)
    word = deed[0]
    if word == "take":
        draft.take_in(deed[1], deed[2], deed[3])
    elif word == "sample":
        draft.keep_sample(deed[1], deed[2])
    elif word == "forget":
        del draft.samples[deed[1]]
    else:
        draft.carry(deed)
    return draft.after(deed)
