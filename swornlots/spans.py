"""Days that keep the ties of a way, while ties come and go."""


class Span:
    """A tie that stands, and the literal that tells it."""

    def __init__(self, first, second, n, literal):
        self.first = first
        self.second = second
        self.n = n
        self.literal = literal


def tie_told(atom, answer):
    """The tie of an atom about days that has this answer."""
    _, first, second, n = atom
    return (first, second, n) if answer else (second, first, -n - 1)


class Calendar:
    """The ties that stand, by their first names, and days that keep them; days stay as they are when ties go."""

    def __init__(self):
        self.days = {"": 0}
        self.posted = {}

    def put(self, atom, answer, literal):
        """Puts up the tie of a literal; None, or a list of literals whose ties are a ring, in its order."""
        first, second, n = tie_told(atom, answer)
        for name in (first, second):
            self.days.setdefault(name, 0)
            self.posted.setdefault(name, [])
        span = Span(first, second, n, literal)
        self.posted[first].append(span)
        return self.settle(span)

    def take_back(self, atom, answer):
        """Takes back the tie that was put up last with this first name."""
        self.posted[tie_told(atom, answer)[0]].pop()

    def settle(self, span):
        """Lowers days until all ties are kept again; if the new one comes to lower its own first day, it is a ring."""
        lowered = {}
        came = {}
        todo = [span]
        while todo:
            step = todo.pop(0)
            day = lowered.get(step.first, self.days[step.first]) + step.n
            if day >= lowered.get(step.second, self.days[step.second]):
                continue
            if step.second == span.first:
                return ring_of(step, came, span)
            lowered[step.second] = day
            came[step.second] = step
            todo.extend(self.posted[step.second])
        self.days.update(lowered)
        return None

    def day_of(self, name):
        """The day of a lot, so that day 0 is 0; that of a lot without ties is 0, too."""
        return self.days.get(name, self.days[""]) - self.days[""]


def ring_of(step, came, span):
    """The literals of the steps from the first one, the span, to this last one that comes back to it."""
    literals = [step.literal]
    while step.first != span.second:
        step = came[step.first]
        literals.insert(0, step.literal)
    return [span.literal, *literals]
