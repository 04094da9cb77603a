"""Programs and short ways to write them, for all tests from rules on."""

from tests.samples import CHAIN, DIAMOND, LOW, NUM, SET

NAMES = ("b", "a")
HEADS = (("n", 1, NUM), ("low", 1, LOW), ("c", 0, CHAIN), ("s", 0, SET), ("w", 2, DIAMOND))
GROUND = (NAMES, HEADS)


def ask(thing, height, yes, no):
    return ("ask", thing, height, yes, no)


def put(*puts):
    return ("put", puts)


def just(thing, height):
    return (thing, ("just", height))


def program(*rules, names=NAMES, heads=HEADS):
    return (names, heads, rules)


NOTHING = put()


def n(*words):
    return ("n",) + words


# One head each of num, low and chain, with no names to tell apart: for programs that fit on one row.
SMALL_HEADS = (("x", 0, NUM), ("y", 0, NUM), ("z", 0, NUM), ("l", 0, LOW), ("m", 0, LOW))
X, Y, Z, L, M = ("x",), ("y",), ("z",), ("l",), ("m",)


def small(*rules):
    return program(*rules, names=("a",), heads=SMALL_HEADS)


def refusal(call, *arguments):
    """The class of the refusal and its fields, or None and what the call told."""
    try:
        return (None, call(*arguments))
    except ValueError as error:
        return (type(error), tuple(vars(error).values()))
