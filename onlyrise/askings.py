"""Askings: what is asked of standings, and the word on it between a standing and a roof."""

from onlyrise.kinds import is_tuple
from onlyrise.roofs import bound_in, fits_under
from onlyrise.standings import height_in
from onlyrise.things import is_risen, order_of

MOST_WITHIN = 5
MOST_IN_ALL = 12
TURNED = {"yes": "no", "no": "yes", "open": "open"}


def is_asking(ground, thing):
    # How deep it goes is looked at first, so that only a shallow one is counted.
    return is_asking_within(ground, thing, MOST_WITHIN) and askings_in(thing) <= MOST_IN_ALL


def is_asking_within(ground, thing, deep):
    if deep == 0 or not is_tuple(thing, 2, 3):
        return False
    if thing[0] == "least":
        return len(thing) == 3 and is_risen(ground, thing[1], thing[2])
    if thing[0] not in (("not",) if len(thing) == 2 else ("both", "either")):
        return False
    return all([is_asking_within(ground, part, deep - 1) for part in thing[1:]])


def parts_of(asking):
    return () if asking[0] == "least" else asking[1:]


def askings_in(asking):
    return 1 + sum([askings_in(part) for part in parts_of(asking)])


def only_rises(asking):
    return asking[0] != "not" and all([only_rises(part) for part in parts_of(asking)])


def holds(ground, standing, asking):
    # Between a standing and itself there is no other one, so no word is open.
    return word_between(ground, standing, standing, asking) == "yes"


def word_between(ground, low, roof, asking):
    if asking[0] == "least":
        return word_of_least(ground, low, roof, asking)
    words = [word_between(ground, low, roof, part) for part in parts_of(asking)]
    if asking[0] == "not":
        return TURNED[words[0]]
    # One word of either part is enough for the whole; the other one needs both.
    enough = "no" if asking[0] == "both" else "yes"
    if enough in words:
        return enough
    return "open" if "open" in words else words[0]


def word_of_least(ground, low, roof, asking):
    order = order_of(ground, asking[1])
    if fits_under(order, asking[2], height_in(ground, low, asking[1])):
        return "yes"
    return "open" if fits_under(order, asking[2], bound_in(ground, roof, asking[1])) else "no"
