"""Orders, and what their heights are."""

from onlyrise.kinds import is_count, is_tuple
from onlyrise.names import are_unlike_names

MOST_WITHIN = 3
MOST_IN_ALL = 6


def is_order(thing):
    # How deep it goes is looked at first, so that only a shallow one is counted.
    return is_order_within(thing, MOST_WITHIN) and orders_in(thing) <= MOST_IN_ALL


def is_order_within(thing, deep):
    if deep == 0 or not is_tuple(thing, 1, 3):
        return False
    sort = thing[0]
    if len(thing) == 1:
        return sort == "num" or sort == "low"
    if len(thing) == 3:
        return sort == "web" and is_web(thing[1], thing[2])
    if sort == "chain":
        return are_unlike_names(thing[1], 2, 6)
    if sort == "set":
        return are_unlike_names(thing[1], 1, 5)
    if sort == "row":
        return is_tuple(thing[1], 1, 3) and all([is_order_within(part, deep - 1) for part in thing[1]])
    return sort == "newer" and is_order_within(thing[1], deep - 1)


def orders_in(order):
    if order[0] == "row":
        return 1 + sum([orders_in(part) for part in order[1]])
    if order[0] == "newer":
        return 1 + orders_in(order[1])
    return 1


def is_web(names, pairs):
    if not are_unlike_names(names, 2, 7) or not are_pairs(names, pairs):
        return False
    return not has_ring(names, pairs) and len(lowest_of(pairs, names)) > 0 and has_joins(names, pairs)


def are_pairs(names, thing):
    if not is_tuple(thing, 1, 20) or not all([is_pair(names, pair) for pair in thing]):
        return False
    return len(set(thing)) == len(thing)


def is_pair(names, thing):
    return is_tuple(thing, 2, 2) and thing[0] in names and thing[1] in names and thing[0] != thing[1]


def has_ring(names, pairs):
    for name in names:
        for other in names_over(pairs, name):
            if other != name and name in names_over(pairs, other):
                return True
    return False


def has_joins(names, pairs):
    for one in names:
        for other in names:
            if len(lowest_of(pairs, names_over_both(pairs, one, other))) == 0:
                return False
    return True


def names_over(pairs, name):
    found = [name]
    seen = 0
    while seen < len(found):
        for lower, higher in pairs:
            if lower == found[seen] and higher not in found:
                found.append(higher)
        seen += 1
    return found


def names_over_both(pairs, one, other):
    over_other = names_over(pairs, other)
    return [name for name in names_over(pairs, one) if name in over_other]


def lowest_of(pairs, names):
    # A list, as there may be none that all the others are over.
    found = []
    for name in names:
        over = names_over(pairs, name)
        if all([other in over for other in names]):
            found.append(name)
    return found


def is_height(order, thing):
    sort = order[0]
    if sort == "num":
        return is_count(thing)
    if sort == "low":
        return thing is None or is_count(thing)
    if sort == "chain" or sort == "web":
        return thing in order[1]
    if sort == "set":
        return isinstance(thing, tuple) and thing == tuple([name for name in order[1] if name in thing])
    if sort == "row":
        return is_row_height(order[1], thing)
    return is_tuple(thing, 2, 2) and is_count(thing[0]) and is_height(order[1], thing[1])


def is_row_height(parts, thing):
    if not is_tuple(thing, len(parts), len(parts)):
        return False
    return all([is_height(part, height) for part, height in zip(parts, thing)])
