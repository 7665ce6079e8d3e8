"""Why a deed is refused."""

from swornlots.deeds import ROLES, is_deed
from swornlots.errors import BadDeed, Empty, Full, Known, NoThing, Sent, Short, TooMany

MOST_DEEDS = 200
MOST_LOTS = 12
MOST_BOXES = 16
MOST_SAMPLES = 12


def is_there(moment, role, name):
    """Whether the name is there as what the role asks for; a new thing need not be there, nor a lot."""
    if role == "vessel":
        return name in moment.vessels
    if role == "box":
        return name in moment.boxes
    if role == "sample":
        return name in moment.samples
    if role == "thing":
        return name in moment.vessels or name in moment.boxes
    return True


def is_taken(moment, role, name):
    """Whether the name cannot be given to what is new in the role, as it is used."""
    if role == "lot":
        return name not in moment.balance and (name in moment.used or name in moment.vessels)
    if role in ("new box", "new sample"):
        return name in moment.used or name in moment.vessels
    return False


def check_names(moment, deed, sent):
    """Refuses names that are not there, then a box that was sent, then used names, then one thing too many."""
    told = list(zip(ROLES[deed[0]], deed[1:]))
    for role, name in told:
        if not is_there(moment, role, name):
            raise NoThing(name)
    if deed[0] in ("part", "open") and deed[1] in sent:
        raise Sent(deed[1])
    for role, name in told:
        if is_taken(moment, role, name):
            raise Known(name)
    for role, name in told:
        if role == "lot" and name not in moment.balance and len(moment.balance) >= MOST_LOTS:
            raise TooMany("lot")
        if role == "new box" and len(moment.boxes) >= MOST_BOXES:
            raise TooMany("box")
        if role == "new sample" and len(moment.samples) >= MOST_SAMPLES:
            raise TooMany("sample")


def most_from(moment, plant, place):
    """The greatest number of units that can be taken from a place by `move`, `pack` or `part`."""
    if place in moment.boxes:
        return moment.boxes[place][0] - 1
    return max(0, moment.vessels[place][0] - plant[place][1])


def units_into(moment, deed):
    """The units that the deed brings into its target."""
    if deed[0] == "open":
        return moment.boxes[deed[1]][0]
    return deed[3]


def check_stuff(moment, plant, deed):
    """Refuses an empty vessel, then too little stuff, then too little room."""
    word = deed[0]
    if word == "sample" and moment.holding(deed[1])[0] == 0:
        raise Empty(deed[1])
    if word in ("move", "pack", "part") and deed[3] > most_from(moment, plant, deed[1]):
        raise Short(deed[1])
    if word in ("take", "move", "open"):
        vessel = deed[2]
        if moment.vessels[vessel][0] + units_into(moment, deed) > plant[vessel][0]:
            raise Full(vessel)


def check_deed(moment, plant, deed, sent=()):
    """Refuses what is no deed, or cannot be done at this moment, where these boxes were sent."""
    if not is_deed(deed):
        raise BadDeed(deed)
    if len(moment.done) >= MOST_DEEDS:
        raise TooMany("deed")
    check_names(moment, deed, sent)
    check_stuff(moment, plant, deed)
