"""The rising checker: papers that show that a program only rises."""

from onlyrise.doing import value_from, values_put
from onlyrise.errors import NoPaper
from onlyrise.heights import at_least, below
from onlyrise.kinds import is_count, is_tuple
from onlyrise.standings import all_lifted, is_over
from onlyrise.things import order_of
from onlyrise.trees import ground_of, leaves_of, number_added, sources_of


class Pair:
    # Two leaves of a rule, i and j, and all that their entry in a paper is looked at by: worked out once,
    # as many entries may be tried. Where both leaves have something, that of i stands at 0, that of j at 1.
    def __init__(self, ground, leaves):
        yes = [askings(leaf[0], True) for leaf in leaves]
        self.ground = ground
        self.nos = [askings(leaf[0], False) for leaf in leaves]
        self.puts = [leaf[1] for leaf in leaves]
        self.alone = all_lifted(ground, (), yes[0])
        self.low = all_lifted(ground, self.alone, yes[1])
        self.high = all_lifted(ground, self.low, values_put(ground, dict(self.low), self.puts[1]))


def askings(path, truth):
    return [(thing, height) for thing, height, way in path if way == truth]


def pairs_of(rule):
    many = len(leaves_of(rule))
    found = []
    for i in range(many):
        found.extend([(i, j) for j in range(many) if i != j])
    return found


def pair_at(program, k, i, j):
    leaves = leaves_of(program[2][k])
    return Pair(ground_of(program), (leaves[i], leaves[j]))


def low_of(program, k, i, j):
    return pair_at(program, k, i, j).low


def high_of(program, k, i, j):
    return pair_at(program, k, i, j).high


def lets_rising(program, thing):
    look_at_form(program, thing)
    number = 0
    for k, rule in enumerate(program[2]):
        for pair, entry in zip(pairs_of(rule), thing[k]):
            look_at_entry(pair_at(program, k, pair[0], pair[1]), entry, number)
            number += 1
    return True


def look_at_form(program, thing):
    rules = program[2]
    if not is_tuple(thing, len(rules), len(rules)):
        raise NoPaper("form", -1)
    for k, rule in enumerate(rules):
        many = len(pairs_of(rule))
        if not is_tuple(thing[k], many, many):
            raise NoPaper("form", k)


def look_at_entry(pair, thing, number):
    if is_clash(thing):
        if not clashes(pair, thing[1], thing[2]):
            raise NoPaper("clash", number)
    elif is_covers(pair, thing):
        for put, reason in zip(pair.puts[0], thing[1]):
            if not is_reason(pair, put, reason):
                raise NoPaper("reason", number)
    else:
        raise NoPaper("entry", number)


def is_clash(thing):
    return is_tuple(thing, 3, 3) and thing[0] == "clash" and is_place(thing[1:])


def is_place(thing):
    # A side, and the number of an asking with no there.
    return is_tuple(thing, 2, 2) and is_count(thing[0]) and thing[0] <= 1 and is_count(thing[1])


def is_covers(pair, thing):
    many = len(pair.puts[0])
    return is_tuple(thing, 2, 2) and thing[0] == "covers" and is_tuple(thing[1], many, many)


def clashes(pair, side, n):
    if n >= len(pair.nos[side]):
        return False
    return is_over(pair.ground, pair.low if side == 1 else pair.alone, (pair.nos[side][n],))


def is_reason(pair, put, thing):
    if thing == ("just",):
        return put[1][0] == "just" and is_reached(pair, put[0], put[1][1])
    if thing == ("own",):
        return is_own(pair, put[0], put[1])
    if not is_tuple(thing, 2, 2):
        return False
    if thing[0] == "like":
        return is_count(thing[1]) and thing[1] < len(pair.puts[1]) and is_like(pair, put, pair.puts[1][thing[1]])
    return thing[0] == "under" and is_bounded(pair, put, thing[1])


def is_reached(pair, thing, height):
    return is_over(pair.ground, pair.high, ((thing, height),))


def is_own(pair, thing, term):
    if term[0] not in ("of", "plus") or term[1] != thing:
        return False
    # What is added to a number of low only lowers its height.
    return number_added(term) == 0 or order_of(pair.ground, thing) == ("low",)


def is_like(pair, put, other):
    return other[0] == put[0] and looks_as_high(order_of(pair.ground, put[0]), other[1], put[1])


def looks_as_high(order, one, other):
    if one[0] in ("of", "plus") and other[0] in ("of", "plus"):
        if order == ("low",):
            return one[1] == other[1] and number_added(one) <= number_added(other)
        return one[1] == other[1] and number_added(one) >= number_added(other)
    if one[0] != other[0]:
        return False
    if one[0] == "just":
        return at_least(order, one[1], other[1])
    return sorted(one[1:]) == sorted(other[1:])


def is_bounded(pair, put, thing):
    sources = sources_of(put[1])
    if len(sources) == 0 or not is_tuple(thing, len(sources), len(sources)):
        return False
    heights = []
    for source, place in zip(sources, thing):
        heights.extend(bound_at(pair, source, place))
    if len(heights) < len(sources):
        return False
    return is_reached(pair, put[0], value_from(order_of(pair.ground, put[0]), put[1], heights))


def bound_at(pair, source, place):
    # The height below the one that is asked there, or none.
    if not is_place(place) or place[1] >= len(pair.nos[place[0]]):
        return ()
    asking = pair.nos[place[0]][place[1]]
    return below(order_of(pair.ground, source), asking[1]) if asking[0] == source else ()
