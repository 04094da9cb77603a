"""Orders with heights of theirs, grounds, and things of other kinds, for all tests."""

NUM = ("num",)
LOW = ("low",)
CHAIN = ("chain", ("raw", "done", "checked"))
SET = ("set", ("c", "a", "b"))
DIAMOND = ("web", ("top", "left", "right", "root"),
           (("root", "left"), ("root", "right"), ("left", "top"), ("right", "top")))
# Of a and b the join is higher than both, and lower than the top; of c and a it is the top.
TALL = ("web", ("t", "a", "b", "j", "o", "c"),
        (("o", "a"), ("o", "b"), ("a", "j"), ("b", "j"), ("j", "t"), ("o", "c"), ("c", "t"), ("a", "t")))
LINE = ("web", ("hi", "lo"), (("lo", "hi"),))
ROW = ("row", (NUM, SET))
NEWER = ("newer", CHAIN)
ROW_IN_NEWER = ("newer", ("row", (LOW, DIAMOND)))
NEWER_IN_ROW = ("row", (("newer", LOW), NUM, ("newer", ("set", ("c", "a")))))
DEEP_NEWER = ("newer", ("newer", NUM))
DEEP_ROW = ("row", (("row", (NUM, LOW)), CHAIN))
ROW_OF_ONE = ("row", (DIAMOND,))

FLAT_ORDERS = (NUM, LOW, CHAIN, SET, DIAMOND, TALL, LINE)
ORDERS = FLAT_ORDERS + (ROW, NEWER, ROW_IN_NEWER, NEWER_IN_ROW, DEEP_NEWER, DEEP_ROW, ROW_OF_ONE)

TWENTY = 98765432109876543210

OTHER_THINGS = (
    None, True, False, 0, 1, -1, 7, "", "a", "A", "num", "*", "-", (), [], ("a",), ["a"], (0,), [0],
    (True,), ((),), [[]], (None,), ("num",), ["num"], ("a", "b"), (("a",), 0), TWENTY, -TWENTY, "a b", "a\nb",
)


def sets_of(names):
    found = [()]
    for name in names:
        found = found + [chosen + (name,) for chosen in found]
    return found


def rows_of(lists):
    found = [()]
    for heights in lists:
        found = [row + (height,) for row in found for height in heights]
    return found


def some_heights(order, most=3):
    """All heights of the order, of num and of newer those with numbers up to most."""
    sort = order[0]
    if sort == "num":
        return list(range(most + 1))
    if sort == "low":
        return [None] + list(range(most + 1))
    if sort in ("chain", "web"):
        return list(order[1])
    if sort == "set":
        return sets_of(order[1])
    if sort == "row":
        return rows_of([some_heights(part, 1) for part in order[1]])
    return [(n, height) for n in range(most + 1) for height in some_heights(order[1], 1)]


def nested(thing, times):
    for k in range(times):
        thing = (thing,)
    return thing


def same(one, other):
    """Alike in kind too, all the way in: True is no 1, a list no tuple."""
    if type(one) is not type(other):
        return False
    if isinstance(one, (tuple, list)):
        return len(one) == len(other) and all(same(a, b) for a, b in zip(one, other))
    return one == other


GROUND = (("b", "a"), (
    ("n", 1, NUM), ("low", 0, LOW), ("b", 2, CHAIN), ("s", 1, SET), ("w", 0, DIAMOND)))
NESTED_GROUND = (("x",), (("r", 0, ROW), ("m", 1, NEWER), ("q", 1, ROW_IN_NEWER), ("p", 0, NEWER_IN_ROW)))
