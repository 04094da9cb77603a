"""Heights of an order compared, joined and met."""

from onlyrise.orders import lowest_of, names_over, names_over_both


def least(order):
    sort = order[0]
    if sort == "num":
        return 0
    if sort == "low":
        return None
    if sort == "chain":
        return order[1][0]
    if sort == "set":
        return ()
    if sort == "web":
        return least_in_web(order[1], order[2])
    if sort == "row":
        return tuple([least(part) for part in order[1]])
    return (0, least(order[1]))


def least_in_web(names, pairs):
    # All other names are over the least one, so it alone is never the higher one of a pair.
    higher = [pair[1] for pair in pairs]
    return [name for name in names if name not in higher][0]


def at_least(order, one, other):
    sort = order[0]
    if sort == "num":
        return one >= other
    if sort == "low":
        return other is None or (one is not None and one <= other)
    if sort == "chain":
        return order[1].index(one) >= order[1].index(other)
    if sort == "set":
        return all([name in one for name in other])
    if sort == "web":
        return one in names_over(order[2], other)
    if sort == "row":
        return all([at_least(part, first, second) for part, first, second in zip(order[1], one, other)])
    return one[0] > other[0] or (one[0] == other[0] and at_least(order[1], one[1], other[1]))


def joined(order, one, other):
    sort = order[0]
    if sort == "set":
        return tuple([name for name in order[1] if name in one or name in other])
    if sort == "web":
        return lowest_of(order[2], names_over_both(order[2], one, other))[0]
    if sort == "row":
        return tuple([joined(part, first, second) for part, first, second in zip(order[1], one, other)])
    if sort == "newer" and one[0] == other[0]:
        return (one[0], joined(order[1], one[1], other[1]))
    # Of any two heights that are left here one is at least the other.
    return one if at_least(order, one, other) else other


def met(order, one, other):
    if order[0] == "set":
        return tuple([name for name in order[1] if name in one and name in other])
    return other if at_least(order, one, other) else one


def below(order, height):
    sort = order[0]
    if sort == "num":
        return (height - 1,) if height > 0 else ()
    if sort == "low":
        # A lower height of low is a greater number, so there is one below every number.
        return () if height is None else (height + 1,)
    if sort == "chain":
        place = order[1].index(height)
        return (order[1][place - 1],) if place > 0 else ()
    if sort == "set":
        return below_in_set(order[1], height)
    if sort == "web":
        return below_in_web(order[1], order[2], height)
    return ()


def below_in_set(names, height):
    # Sets that lack one of several names have no greatest one: each lacks another name.
    if len(height) != 1:
        return ()
    return (tuple([name for name in names if name != height[0]]),)


def below_in_web(names, pairs, height):
    over = names_over(pairs, height)
    lower = [name for name in names if name not in over]
    return tuple([name for name in lower if all([name in names_over(pairs, other) for other in lower])])
