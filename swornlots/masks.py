"""Clauses as pairs of integers, for sets of any size: what they say of some marks, told by primes.

Each mark has a bit. A clause is the pair of the bits of its marks with the sense True and of those with False.
"""


def less(bits, others):
    """The bits that are not among the others."""
    return bits ^ (bits & others)


def lowest_bit(bits):
    """The lowest one of the bits, of which there are some."""
    return bits & -bits


def bits_in(bits):
    """A list of the single bits."""
    result = []
    while bits:
        result.append(lowest_bit(bits))
        bits = less(bits, result[-1])
    return result


def size_of(row):
    """How many marks a clause has."""
    return len(bits_in(row[0])) + len(bits_in(row[1]))


def is_part(first, second):
    """Whether all of the first clause stands in the second one."""
    return less(first[0], second[0]) == 0 and less(first[1], second[1]) == 0


def shortest(rows):
    """The clauses without those in which all of another one stands, short ones first."""
    kept = []
    for _, row in sorted([(size_of(row), row) for row in rows]):
        if not any([is_part(other, row) for other in kept]):
            kept.append(row)
    return kept


def joined_by(bit, rows):
    """What the clauses with a mark in both senses say together of the other marks."""
    yes = [row for row in rows if row[0] & bit]
    no = [row for row in rows if row[1] & bit]
    found = [(less(first[0] | second[0], bit), less(first[1] | second[1], bit)) for first in yes for second in no]
    return [row for row in found if row[0] & row[1] == 0]


def work_of(bit, rows):
    """How many more clauses there are when a mark is eliminated."""
    above = len([row for row in rows if row[0] & bit])
    below = len([row for row in rows if row[1] & bit])
    return above * below - above - below


def without_marks(rows, bits):
    """Clauses that are kept by answers exactly if some answers for the marks of these bits keep the given ones."""
    rows = shortest(rows)
    left = bits_in(bits)
    while left:
        bit = min(left, key=lambda one: work_of(one, rows))
        others = [row for row in rows if (row[0] | row[1]) & bit == 0]
        rows = shortest(others + joined_by(bit, rows))
        left = [other for other in left if other != bit]
    return rows


def opened_row(row, yes, no):
    """What is open of a clause where the marks of some bits are answered yes or no; None if it is kept."""
    if row[0] & yes or row[1] & no:
        return None
    return (less(row[0], no), less(row[1], yes))


def can_keep(rows, yes, no):
    """Whether some answers, yes and no for the marks of these bits, keep all clauses."""
    while True:
        told = [opened_row(row, yes, no) for row in rows]
        rows = [row for row in told if row is not None]
        if not rows:
            return True
        row = min(rows, key=size_of)
        if row == (0, 0):
            return False
        bit = lowest_bit(row[0] | row[1])
        is_yes = row[0] & bit != 0
        if size_of(row) > 1 and can_keep(rows, yes | bit if is_yes else yes, no if is_yes else no | bit):
            return True
        # The mark has the other answer, unless the clause leaves it no choice.
        if (size_of(row) == 1) == is_yes:
            yes = yes | bit
        else:
            no = no | bit


def follows_from(row, rows):
    """Whether a clause follows from others."""
    return not can_keep(rows, row[1], row[0])


def prime_of(row, rows):
    """A prime of the clauses, all of which stands in this one that follows from them."""
    for bit in bits_in(row[0] | row[1]):
        fewer = (less(row[0], bit), less(row[1], bit))
        if follows_from(fewer, rows):
            row = fewer
    return row


def lean_primes(rows):
    """Primes of the clauses that say the same, none of which follows from the others."""
    found = shortest([prime_of(row, rows) for row in rows])
    for row in list(found):
        others = [other for other in found if other != row]
        if follows_from(row, others):
            found = others
    return found
