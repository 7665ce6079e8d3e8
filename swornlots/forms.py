"""Names, whole numbers, and what ascends."""

RESERVED = (
    "and", "or", "not", "free", "untouched", "least", "most", "of", "since", "until", "single",
    "recipe", "take", "move", "drain", "wash", "pack", "repeat", "when", "else", "end", "done",
    "yes", "no", "none",
)

LETTERS = "abcdefghijklmnopqrstuvwxyz"
SIGNS = "abcdefghijklmnopqrstuvwxyz0123456789"
LONGEST_NAME = 8


def is_name(thing):
    """Whether the thing is a name."""
    if not isinstance(thing, str) or not 1 <= len(thing) <= LONGEST_NAME:
        return False
    if thing[0] not in LETTERS or thing in RESERVED:
        return False
    return all([sign in SIGNS for sign in thing])


def is_name_pair(thing):
    """Whether the thing is a pair of names, as unknowns and marks are."""
    return isinstance(thing, tuple) and len(thing) == 2 and is_name(thing[0]) and is_name(thing[1])


def is_whole(thing):
    """Whether the thing is an integer; True and False are none."""
    return isinstance(thing, int) and not isinstance(thing, bool)


def is_whole_within(thing, least, most):
    """Whether the thing is an integer from the least to the most one."""
    return is_whole(thing) and least <= thing <= most


def ascends(things):
    """Whether each of the things is greater than the one before it."""
    return all([first < second for first, second in zip(things, things[1:])])
