"""Deeds: their forms, and between which places they carry stuff or touch."""

from swornlots.forms import is_name, is_whole_within

GREATEST_PART = 10000

# What the words behind the first one of a deed stand for.
ROLES = {
    "take": ("lot", "vessel", "n"),
    "move": ("vessel", "vessel", "n"),
    "drain": ("vessel",),
    "wash": ("vessel",),
    "pack": ("vessel", "new box", "n"),
    "part": ("box", "new box", "n"),
    "open": ("box", "vessel"),
    "end": ("box",),
    "sample": ("thing", "new sample"),
    "forget": ("sample",),
}


def fits(role, thing):
    """Whether the thing can stand for the role."""
    if role == "n":
        return is_whole_within(thing, 1, GREATEST_PART)
    return is_name(thing)


def is_deed(thing):
    """Whether the thing is a deed."""
    if not isinstance(thing, tuple) or not thing:
        return False
    word = thing[0]
    if not isinstance(word, str) or word not in ROLES or len(thing) != len(ROLES[word]) + 1:
        return False
    if not all([fits(role, told) for role, told in zip(ROLES[word], thing[1:])]):
        return False
    return word != "move" or thing[1] != thing[2]


def source_of(deed):
    """The thing whose stuff, touch or keeping the deed is about, None for a `take`."""
    return None if deed[0] == "take" else deed[1]


def target_of(deed):
    """The thing to which stuff or a sample comes by the deed, or None."""
    if deed[0] in ("drain", "wash", "end", "forget"):
        return None
    return deed[2]
