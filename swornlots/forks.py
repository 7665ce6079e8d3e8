"""Formulas as they are searched: literals, and forks of them.

The literal 2 * k tells that atom k is answered no, 2 * k + 1 that it is answered yes. A fork is a literal, True,
False, or a pair of "and" or "or" and a tuple of forks, without any `not`. The truth of literals is a list that has
True, False or None for each of them.
"""


def opposite_of(literal):
    """The literal with the other answer."""
    return literal ^ 1


def joined(word, forks):
    """The forks joined by `and` or `or`: never with True or False among them, nor with the same word inside."""
    deciding = word == "or"
    parts = []
    for fork in forks:
        if fork is deciding:
            return deciding
        if isinstance(fork, tuple) and fork[0] == word:
            parts.extend(fork[1])
        elif not isinstance(fork, bool):
            parts.append(fork)
    if len(parts) == 1:
        return parts[0]
    return (word, tuple(parts)) if parts else not deciding


def fork_of(formula, sense, numbers):
    """The fork of the formula, or of its opposite, by a dict with the number of each atom."""
    word = formula[0]
    if word == "not":
        return fork_of(formula[1], not sense, numbers)
    if len(formula) != 2:
        return 2 * numbers[formula] + (1 if sense else 0)
    if not sense:
        word = "or" if word == "and" else "and"
    return joined(word, [fork_of(part, sense, numbers) for part in formula[1]])


def pieces_of(fork):
    """The forks that must be true for this one to be true."""
    if isinstance(fork, tuple) and fork[0] == "and":
        return list(fork[1])
    return [] if fork is True else [fork]


def literals_in(fork):
    """A list of the literals in the fork."""
    if not isinstance(fork, tuple):
        return [fork]
    return [literal for part in fork[1] for literal in literals_in(part)]


def value_of(fork, truth):
    """Whether the fork is true; None if that is open."""
    if not isinstance(fork, tuple):
        return truth[fork]
    deciding = fork[0] == "or"
    result = not deciding
    for part in fork[1]:
        value = value_of(part, truth)
        if value is deciding:
            return deciding
        if value is None:
            result = None
    return result


def demands(fork, truth):
    """The open literals that must be true for the fork to be true, as far as they show; None if it is false."""
    if not isinstance(fork, tuple):
        if truth[fork] is None:
            return [fork]
        return [] if truth[fork] else None
    if fork[0] == "and":
        told = [demands(part, truth) for part in fork[1]]
        return None if None in told else [literal for some in told for literal in some]
    left = []
    for part in fork[1]:
        value = value_of(part, truth)
        if value is True:
            return []
        if value is None:
            left.append(part)
    if len(left) == 1:
        return demands(left[0], truth)
    return [] if left else None


def reasons_against(fork, truth):
    """A list of true literals by which alone the fork, which is false, is false."""
    if not isinstance(fork, tuple):
        return [opposite_of(fork)]
    if fork[0] == "or":
        return [literal for part in fork[1] for literal in reasons_against(part, truth)]
    told = [reasons_against(part, truth) for part in fork[1] if value_of(part, truth) is False]
    return min(told, key=len)


def open_literals(fork, truth):
    """A list of the open literals of those parts of the fork that are open."""
    if value_of(fork, truth) is not None:
        return []
    if not isinstance(fork, tuple):
        return [fork]
    return [literal for part in fork[1] for literal in open_literals(part, truth)]
