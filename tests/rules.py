"""Programs and short ways to write them, for all tests from rules on."""

import copy

from onlyrise.halls import deed_done, first_hall
from onlyrise.heights import least
from onlyrise.roofs import raised
from onlyrise.standings import lifted
from onlyrise.things import order_of
from onlyrise.trees import cases_of
from tests.samples import CHAIN, DIAMOND, LOW, NUM, SET, same, some_heights

NAMES = ("b", "a")
HEADS = (("n", 1, NUM), ("low", 1, LOW), ("c", 0, CHAIN), ("s", 0, SET), ("w", 2, DIAMOND))
GROUND = (NAMES, HEADS)


def ask(thing, height, yes, no):
    return ("ask", thing, height, yes, no)


def put(*puts):
    return ("put", puts)


def just(thing, height):
    return (thing, ("just", height))


def program(*rules, names=NAMES, heads=HEADS):
    return (names, heads, rules)


NOTHING = put()


def n(*words):
    return ("n",) + words


# One head each of num, low and chain, with no names to tell apart: for programs that fit on one row.
SMALL_HEADS = (("x", 0, NUM), ("y", 0, NUM), ("z", 0, NUM), ("l", 0, LOW), ("m", 0, LOW))
X, Y, Z, L, M = ("x",), ("y",), ("z",), ("l",), ("m",)


def small(*rules):
    return program(*rules, names=("a",), heads=SMALL_HEADS)


def refusal(call, *arguments):
    """The class of the refusal and its fields, or None and what the call told."""
    try:
        return (None, call(*arguments))
    except ValueError as error:
        return (type(error), tuple(vars(error).values()))


def refused_alike(case, call, arguments, told):
    """The call refuses with just that class and those fields, and changes none of its arguments."""
    kept = copy.deepcopy(arguments)
    case.assertEqual(refusal(call, *arguments), told, arguments)
    case.assertTrue(same(list(arguments), list(kept)))


# Programs, standings and runs by chance: the tests hand in their own source, always begun alike.

def some_height(chance, order):
    return chance.choice(some_heights(order, 4))


def some_thing(chance, ground, order=None, marks=()):
    heads = [head for head in ground[1] if order in (None, head[2])]
    head = chance.choice(heads)
    return (head[0],) + tuple(chance.choice(ground[0] + marks) for place in range(head[1]))


def some_term(chance, ground, order, marks):
    def thing():
        return some_thing(chance, ground, order, marks)
    sorts = {"num": ("plus", "sum", "meet"), "low": ("plus", "sum", "meet"), "chain": ("meet",), "set": ("meet",)}
    sort = chance.choice(("just", "just", "of") + sorts.get(order[0], ()))
    if sort == "just":
        return (sort, some_height(chance, order))
    if sort == "of":
        return (sort, thing())
    return (sort, thing(), chance.randrange(4) if sort == "plus" else thing())


def some_leaf(chance, ground, marks, most=2):
    things = [some_thing(chance, ground, None, marks) for place in range(chance.randrange(most + 1))]
    return put(*[(thing, some_term(chance, ground, order_of(ground, thing), marks)) for thing in things])


def some_tree(chance, ground, marks, deep):
    if deep == 0 or chance.random() < 0.2:
        return some_leaf(chance, ground, marks)
    thing = some_thing(chance, ground, None, marks)
    order = order_of(ground, thing)
    height = chance.choice([height for height in some_heights(order, 4) if height != least(order)])
    yes = some_tree(chance, ground, marks, deep - 1)
    # A no that puts nothing makes rules that rise as often as not.
    return ask(thing, height, yes, NOTHING if chance.random() < 0.6 else some_tree(chance, ground, marks, deep - 1))


def some_program(chance, most=4, heads=None):
    names = tuple(chance.sample(("a", "b", "c"), chance.randrange(1, 3)))
    orders = heads or (NUM, NUM, LOW, CHAIN, SET, DIAMOND, ("row", (NUM, CHAIN)), ("newer", SET))
    ground = (names, tuple((name, chance.randrange(2), chance.choice(orders)) for name in ("x", "y", "z")))
    rules = [some_tree(chance, ground, ("A", "B"), chance.randrange(3)) for place in range(chance.randrange(1, most))]
    return ground + (tuple(rules),)


def some_standing(chance, ground, most=3):
    standing = ()
    for place in range(chance.randrange(most + 1)):
        thing = some_thing(chance, ground)
        standing = lifted(ground, standing, thing, some_height(chance, order_of(ground, thing)))
    return standing


def some_deed(chance, given, hall):
    hand = chance.randrange(len(hall[0]))
    thing = some_thing(chance, given[:2])
    deeds = [("send", hand, thing), ("put", hand, thing, some_height(chance, order_of(given[:2], thing)))]
    deeds += [("do", hand, chance.choice(cases_of(given)))] * 4
    if hall[1]:
        deeds += [("come", hand, chance.randrange(len(hall[1])))] * 2
    return chance.choice(deeds)


def some_hall(chance, given, many, most=25):
    hall = first_hall(given, many)
    for place in range(chance.randrange(most)):
        hall = deed_done(given, hall, some_deed(chance, given, hall))
    return hall


def some_roof(chance, ground, most=4):
    roof = ()
    for place in range(chance.randrange(most + 1)):
        thing = some_thing(chance, ground)
        roof = raised(ground, roof, thing, "*" if chance.random() < 0.4 else some_height(chance, order_of(ground, thing)))
    return roof


def some_asking(chance, ground, deep=2):
    sort = chance.choice(("least", "both", "either", "not")) if deep else "least"
    if sort == "least":
        thing = some_thing(chance, ground)
        return (sort, thing, some_height(chance, order_of(ground, thing)))
    return (sort,) + tuple(some_asking(chance, ground, deep - 1) for place in range(1 if sort == "not" else 2))
