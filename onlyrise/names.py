"""Names and marks."""

from onlyrise.kinds import is_tuple

SMALL_LETTERS = "abcdefghijklmnopqrstuvwxyz"
MARKS = ("A", "B", "C", "D", "E", "F")


def is_name(thing):
    if not isinstance(thing, str) or not 1 <= len(thing) <= 8:
        return False
    return all([sign in SMALL_LETTERS for sign in thing])


def is_mark(thing):
    return thing in MARKS


def are_unlike_names(thing, fewest, most):
    # A set is made only of what is known to be texts: lists can not stand in one.
    if not is_tuple(thing, fewest, most) or not all([is_name(name) for name in thing]):
        return False
    return len(set(thing)) == len(thing)
