"""Clauses about the traits of lots, answers that keep them, and shut trees."""

from swornlots.errors import BadClause, TooMany
from swornlots.forms import ascends, is_name_pair, is_whole_within

MOST_CLAUSES = 60
MOST_MARKS = 12


def is_sensed(thing):
    """Whether the thing is a pair of a mark and True or False."""
    if not isinstance(thing, tuple) or len(thing) != 2:
        return False
    return is_name_pair(thing[0]) and isinstance(thing[1], bool)


def is_clause(thing):
    """Whether the thing is a clause; answers have the same form."""
    if not isinstance(thing, tuple) or not all([is_sensed(pair) for pair in thing]):
        return False
    return ascends([mark for mark, _ in thing])


def marks_in(rows):
    """The marks in the clauses, ascending."""
    return tuple(sorted({mark for row in rows for mark, _ in row}))


def is_kept(clause, answers):
    """Whether some mark of the clause has the answer that its sense tells, by a dict of answers."""
    return any([answers.get(mark) == sense for mark, sense in clause])


def is_broken(clause, answers):
    """Whether each mark of the clause has the answer that its sense does not tell, by a dict of answers."""
    return all([answers.get(mark) == (not sense) for mark, sense in clause])


class Clauses:
    """Clauses that are to be kept together."""

    def __init__(self, rows):
        for number, row in enumerate(rows):
            if not is_clause(row):
                raise BadClause(number)
        if len(rows) > MOST_CLAUSES:
            raise TooMany("clause")
        self.names = marks_in(rows)
        if len(self.names) > MOST_MARKS:
            raise TooMany("mark")
        self.rows = tuple(rows)

    @property
    def marks(self):
        """The marks in the clauses, ascending."""
        return self.names

    def __add__(self, other):
        if not isinstance(other, Clauses):
            return NotImplemented
        return Clauses(self.rows + other.rows)

    def __len__(self):
        return len(self.rows)

    def __iter__(self):
        return iter(self.rows)

    def __eq__(self, other):
        return isinstance(other, Clauses) and self.rows == other.rows

    def __contains__(self, x):
        if not is_clause(x) or tuple([mark for mark, _ in x]) != self.names:
            return False
        answers = dict(x)
        return all([is_kept(row, answers) for row in self.rows])


def shortest_open(rows, answers):
    """The marks without an answer of the clause, not yet kept, that has the fewest of them; None if all are kept."""
    result = None
    for row in rows:
        if is_kept(row, answers):
            continue
        unasked = [mark for mark, _ in row if mark not in answers]
        if result is None or len(unasked) < len(result):
            result = unasked
    return result


def first_broken(rows, answers):
    """The number of the first broken clause, or None."""
    for number, row in enumerate(rows):
        if is_broken(row, answers):
            return number
    return None


def search(rows, answers):
    """A dict of these answers and more, by which all clauses are kept, and None; or None, and a shut tree."""
    broken = first_broken(rows, answers)
    if broken is not None:
        return (None, ("broken", broken))
    unasked = shortest_open(rows, answers)
    if unasked is None:
        return (answers, None)
    mark = unasked[0]
    trees = []
    for answer in (True, False):
        found, tree = search(rows, {**answers, mark: answer})
        if tree is None:
            return (found, None)
        trees.append(tree)
    return (None, ("ask", mark, trees[0], trees[1]))


def completed(answers, marks):
    """The answers for the marks, ascending; a mark without one has False."""
    return tuple([(mark, answers.get(mark, False)) for mark in marks])


def decide(clauses):
    """Answers of the clauses, or a shut tree."""
    answers, tree = search(clauses.rows, {})
    if tree is None:
        return ("answers", completed(answers, clauses.marks))
    return ("tree", tree)


def is_shut_below(clauses, tree, answers):
    """Whether the tree is shut behind these answers."""
    if not isinstance(tree, tuple) or not tree:
        return False
    if tree[0] == "broken" and len(tree) == 2:
        number = tree[1]
        return is_whole_within(number, 0, len(clauses.rows) - 1) and is_broken(clauses.rows[number], answers)
    if tree[0] != "ask" or len(tree) != 4:
        return False
    _, mark, yes, no = tree
    if mark not in clauses.marks or mark in answers:
        return False
    if not is_shut_below(clauses, yes, {**answers, mark: True}):
        return False
    return is_shut_below(clauses, no, {**answers, mark: False})


def shut(clauses, tree):
    """Whether the tree is a shut tree of the clauses."""
    return is_shut_below(clauses, tree, {})
