"""Sets of clauses for the tests, and what [16] to [19] say of them, by trying all answers."""

from itertools import combinations, product

MARKS = tuple((lot, trait) for lot in ("l1", "l2", "l3") for trait in ("nuts", "soy"))
A, B, C, D = MARKS[:4]


def clause(*senses):
    """A clause from pairs in any order."""
    return tuple(sorted(senses))


def is_kept(told, answers):
    return any(answers[mark] == sense for mark, sense in told)


def all_answers(marks):
    return [dict(zip(marks, row)) for row in product([False, True], repeat=len(marks))]


def models(rows, marks):
    return [answers for answers in all_answers(marks) if all(is_kept(row, answers) for row in rows)]


def marks_of(rows):
    return tuple(sorted({mark for row in rows for mark, _ in row}))


def tried_primes(rows):
    """All primes, by trying all clauses of the marks, short ones first."""
    marks = marks_of(rows)
    known = models(rows, marks)
    found = []
    for many in range(len(marks) + 1):
        for some in combinations(marks, many):
            for senses in product([False, True], repeat=many):
                told = tuple(zip(some, senses))
                if any(set(less) <= set(told) for less in found):
                    continue
                if all(is_kept(told, answers) for answers in known):
                    found.append(told)
    return tuple(sorted(found, key=lambda told: (len(told), told)))


def random_clause(random, marks, most=3):
    many = random.randint(1, min(most, len(marks))) if random.random() < 0.97 else 0
    return clause(*[(mark, random.random() < 0.5) for mark in random.sample(marks, many)])


def random_rows(random):
    marks = random.sample(MARKS, random.randint(1, 5))
    return [random_clause(random, marks) for _ in range(random.randint(0, 9))]
