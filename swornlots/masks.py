"""Clauses as pairs of integers, for sets of any size: what they say of some marks, told by primes.

Each mark has a bit. A clause is the pair of the bits of its marks with the sense True and of those with False.
"""

# How many times as many clauses there can be before they are made lean again.
GROWTH = 2


def less(bits, others):
    """The bits that are not among the others."""
    return bits ^ (bits & others)


def lowest_bit(bits):
    """The lowest one of the bits, of which there are some."""
    return bits & -bits


def bits_in(bits):
    """A list of the single bits."""
    result = []
    while bits:
        result.append(lowest_bit(bits))
        bits = less(bits, result[-1])
    return result


def marks_of(row):
    """The bits of all marks of a clause."""
    return row[0] | row[1]


def size_of(row):
    """How many marks a clause has."""
    return len(bits_in(row[0])) + len(bits_in(row[1]))


def is_part(first, second):
    """Whether all of the first clause stands in the second one."""
    return less(first[0], second[0]) == 0 and less(first[1], second[1]) == 0


def shortest(rows):
    """The clauses without those in which all of another one stands, short ones first."""
    kept = []
    for _, row in sorted([(size_of(row), row) for row in rows]):
        if not any([is_part(other, row) for other in kept]):
            kept.append(row)
    return kept


def joined_by(bit, rows):
    """What the clauses with a mark in both senses say together of the other marks."""
    yes = [row for row in rows if row[0] & bit]
    no = [row for row in rows if row[1] & bit]
    found = [(less(first[0] | second[0], bit), less(first[1] | second[1], bit)) for first in yes for second in no]
    return [row for row in found if row[0] & row[1] == 0]


def work_of(bit, rows):
    """How many more clauses there are when a mark is eliminated."""
    above = len([row for row in rows if row[0] & bit])
    below = len([row for row in rows if row[1] & bit])
    return above * below - above - below


def opened_once(rows, yes, no):
    """What one turn through the clauses leaves open of them, with all answers by then; None if a clause is broken."""
    left = []
    for above, below in rows:
        if above & yes or below & no:
            continue
        above, below = less(above, no), less(below, yes)
        bits = above | below
        if bits == 0:
            return None
        if bits == lowest_bit(bits):
            yes, no = yes | above, no | below
        else:
            left.append((above, below))
    return (left, yes, no)


def opened_rows(rows, yes, no):
    """What is open of clauses where the marks of some bits are answered yes or no, with all answers that come of it.

    Clauses with one mark left force its answer; None if a clause is broken.
    """
    while True:
        told = opened_once(rows, yes, no)
        if told is None or told[1:] == (yes, no):
            return told
        rows, yes, no = told


def can_keep(rows, yes, no):
    """Whether some answers, yes and no for the marks of these bits, keep all clauses."""
    told = opened_rows(rows, yes, no)
    if told is None:
        return False
    rows, yes, no = told
    if not rows:
        return True
    above, below = min(rows, key=size_of)
    bit = lowest_bit(above | below)
    if above & bit:
        return can_keep(rows, yes | bit, no) or can_keep(rows, yes, no | bit)
    return can_keep(rows, yes, no | bit) or can_keep(rows, yes | bit, no)


def follows_from(row, rows):
    """Whether a clause follows from others."""
    return not can_keep(rows, row[1], row[0])


def prime_of(row, rows):
    """A prime of the clauses, all of which stands in this one that follows from them."""
    for bit in bits_in(marks_of(row)):
        fewer = (less(row[0], bit), less(row[1], bit))
        if follows_from(fewer, rows):
            row = fewer
    return row


def lean_primes(rows):
    """Primes of the clauses that say the same, none of which follows from the others."""
    found = shortest([prime_of(row, rows) for row in rows])
    for row in list(found):
        others = [other for other in found if other != row]
        if follows_from(row, others):
            found = others
    return found


def linked_to(bits, rows):
    """The bits, and all others that clauses tie to them, however far round."""
    before = None
    while before != bits:
        before = bits
        for row in rows:
            if marks_of(row) & bits:
                bits = bits | marks_of(row)
    return bits


def without_marks(rows, bits):
    """Primes of what clauses say of all other marks than those of these bits, none of which follows from the others."""
    staying = 0
    for row in rows:
        staying = staying | less(marks_of(row), bits)
    linked = linked_to(staying, rows)
    # Of marks that nothing ties to those that stay, nothing is left to say.
    rows = lean_primes([row for row in rows if marks_of(row) & linked])
    many = len(rows)
    left = bits_in(bits)
    while left:
        bit = min(left, key=lambda one: work_of(one, rows))
        others = [row for row in rows if marks_of(row) & bit == 0]
        rows = shortest(others + joined_by(bit, rows))
        left = [other for other in left if other != bit]
        if len(rows) > GROWTH * many:
            # Primes are shorter, so that less comes of the next mark.
            rows = lean_primes(rows)
            many = len(rows)
    return lean_primes(rows)
