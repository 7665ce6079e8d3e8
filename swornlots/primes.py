"""Primes of sets of clauses, by their tables.

The table of a set is an integer with one bit for each way to answer its marks: bit number k is 1 if the answers
that k tells keep the set, where bit number i of k tells the answer of mark i.
"""

from swornlots.clauses import completed, is_clause, marks_in, search
from swornlots.errors import BadClause, NoAnswers


def whole_table(many):
    """The table of so many marks in which all bits are 1."""
    return (1 << (1 << many)) - 1


def mark_table(at, many):
    """The table, for so many marks, of the answers in which the mark with this number is True."""
    width = 1 << at
    table = ((1 << width) - 1) << width
    width = width * 2
    while width < 1 << many:
        table = table | (table << width)
        width = width * 2
    return table


def clause_table(clause, marks):
    """The table of a clause for these marks."""
    whole = whole_table(len(marks))
    result = 0
    for mark, sense in clause:
        table = mark_table(marks.index(mark), len(marks))
        result = result | (table if sense else whole ^ table)
    return result


def table_of(rows, marks):
    """The table of some clauses for these marks."""
    result = whole_table(len(marks))
    for row in rows:
        result = result & clause_table(row, marks)
    return result


def halved(table, many):
    """The tables for the answers False and True of the last one of so many marks."""
    width = 1 << (many - 1)
    return (table & ((1 << width) - 1), table >> width)


class Finder:
    """Finds the primes of tables, each once."""

    def __init__(self):
        self.known = {}

    def primes_of(self, table, many):
        """Pairs of a prime, a tuple of pairs of the number of a mark and a sense, and the table that breaks it."""
        if table == 0:
            return [((), whole_table(many))]
        if table == whole_table(many):
            return []
        if (many, table) not in self.known:
            self.known[(many, table)] = self.by_halves(table, many)
        return self.known[(many, table)]

    def by_halves(self, table, many):
        """The same by the last mark: primes without it, and those of one half that do not hold in the other."""
        no, yes = halved(table, many)
        last, width = many - 1, 1 << (many - 1)
        result = [(clause, broken | (broken << width)) for clause, broken in self.primes_of(no | yes, last)]
        for clause, broken in self.primes_of(no, last):
            if broken & yes != 0:
                result.append((clause + ((last, True),), broken))
        for clause, broken in self.primes_of(yes, last):
            if broken & no != 0:
                result.append((clause + ((last, False),), broken << width))
        return result


def primes(clauses):
    """All clauses that follow, and of which no part does, by their length and then as tuples."""
    marks = clauses.marks
    found = Finder().primes_of(table_of(clauses.rows, marks), len(marks))
    told = [tuple([(marks[at], sense) for at, sense in clause]) for clause, _ in found]
    return tuple(sorted(told, key=lambda clause: (len(clause), clause)))


def say_same(first, second):
    """Whether two sets have the same primes."""
    return primes(first) == primes(second)


def implied(clauses, clause):
    """None if the clause follows, otherwise answers that keep the set and not the clause."""
    if not is_clause(clause):
        raise BadClause(0)
    turned = {mark: not sense for mark, sense in clause}
    answers, _ = search(clauses.rows, turned)
    if answers is None:
        return None
    return completed(answers, marks_in([*clauses.rows, clause]))


def shadow_clauses(clauses, marks):
    """The primes all of whose marks are among these."""
    return tuple([clause for clause in primes(clauses) if all([mark in marks for mark, _ in clause])])


def fewest_in(table, many, costs):
    """The least cost of answers of a table, and the numbers of their True marks; None if there are none."""
    if table == 0:
        return None
    if many == 0:
        return (0, ())
    no, yes = halved(table, many)
    least = fewest_in(no, many - 1, costs)
    other = fewest_in(yes, many - 1, costs)
    if other is not None:
        other = (other[0] + costs[many - 1], other[1] + (many - 1,))
    if least is None or (other is not None and other[0] < least[0]):
        return other
    return least


def fewest(clauses, marks):
    """The least number of these marks that are True in answers of the set and these marks, with such answers."""
    names = clauses.marks
    costs = [1 if mark in marks else 0 for mark in names]
    found = fewest_in(table_of(clauses.rows, names), len(names), costs)
    if found is None:
        _, tree = search(clauses.rows, {})
        raise NoAnswers(tree)
    number, numbers = found
    answers = {names[at]: True for at in numbers}
    return (number, completed(answers, tuple(sorted(set([*names, *marks])))))
