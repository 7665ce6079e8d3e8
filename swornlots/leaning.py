"""Leaving out the rows that follow from the others."""

from swornlots.points import point_or_prices
from swornlots.ratios import ZERO
from swornlots.rows import unknowns_in
from swornlots.tableaus import Tableau, limit_of, negated, pivoted, stopping


def lean_rows(rows, beside=()):
    """Those of the rows that are left when each that follows from all others that still stand is left out.

    The rows beside them stand all the time.
    """
    tableau = Tableau([*rows, *beside])
    if tableau.settle() is not None:
        return lean_shut_rows(rows, beside)
    basis = tableau.basis
    kept = []
    for number, row in enumerate(rows):
        if row[1] == "=":
            left = without_equal(basis, number, tableau)
        else:
            left = risen(flipped(basis, number), number, tableau)
        if left is None:
            kept.append(row)
        else:
            basis = {slack: equation for slack, equation in left.items() if slack != number}
    return tuple(kept)


def lean_shut_rows(rows, beside):
    """The same for rows without a point, from which a row is left out if the others have none, either."""
    told = [*rows, *beside]
    numbers = list(range(len(told)))
    prices = prices_by_number(told, numbers)
    for number in range(len(rows)):
        others = [other for other in numbers if other != number]
        if prices[number] != ZERO:
            fewer = prices_by_number(told, others)
            if fewer is None:
                continue
            prices = fewer
        numbers = others
    return tuple([rows[number] for number in numbers if number < len(rows)])


def prices_by_number(rows, numbers):
    """A dict of prices that shut the rows with these numbers, or None if they have a point."""
    some = [rows[number] for number in numbers]
    _, prices = point_or_prices(some, unknowns_in(some))
    if prices is None:
        return None
    return dict(zip(numbers, prices))


def flipped(basis, number):
    """The basis with the slack of this number turned to its negative."""
    result = {}
    for slack, equation in basis.items():
        if number in equation:
            equation = {**equation, number: -equation[number]}
        result[slack] = negated(equation) if slack == number else equation
    return result


def is_beyond(limit):
    """Whether a slack that was turned breaks its row at the limit.

    The equation of a row with "<" has the small amount in it once, so the row is kept up to there. The slack of
    another row is never between 0 and the small amount, as the small amount only makes the other rows tighter.
    """
    bound, small, below = limit
    return (bound, small) >= (0, below)


def risen(basis, number, tableau):
    """A basis in which the slack of this number is as great as it can be, or None if it can break its row."""
    patience = tableau.first_patience()
    while True:
        entering = number
        if number in basis:
            if is_beyond(limit_of(basis[number], number)):
                return None
            entering = tableau.steepest(basis[number], patience)
            patience = patience - 1
        if entering is None:
            return basis
        leaving = stopping({slack: basis[slack] for slack in basis if slack != number}, entering)
        if leaving is None:
            return None
        if entering == number and is_beyond(limit_of(basis[leaving], number)):
            return None
        basis = pivoted(basis, leaving, entering)


def without_equal(basis, number, tableau):
    """A basis with the slack of a row with "=", which the other rows keep at 0, or None if they do not."""
    for slack in [number, *tableau.fixed]:
        if slack in basis and number in basis[slack]:
            # Only slacks of rows with "=" stand in this equation, so it says that this one is 0.
            return basis if slack == number else pivoted(basis, slack, number)
    highest = risen(basis, number, tableau)
    if highest is None:
        return None
    return risen(flipped(highest, number), number, tableau)
