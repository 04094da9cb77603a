"""Two runs that part a program, sought by its plain pairs, and the verdict on it."""

from onlyrise.doing import done, leaf_in
from onlyrise.ended import deeds_of, plain_end
from onlyrise.ends import trees_by_case
from onlyrise.risechecker import askings
from onlyrise.rising import rising
from onlyrise.standings import all_lifted, joined_standings
from onlyrise.trees import ground_of, leaves_of

MOST_PAIRS = 40


def plain_pairs(program):
    found = []
    for case, tree in trees_by_case(program):
        found.extend([(case, low, high) for low, high in pairs_in(ground_of(program), tree)])
        if len(found) >= MOST_PAIRS:
            return found[:MOST_PAIRS]
    return found


def pairs_in(ground, tree):
    yes = [askings(path, True) for path, puts in leaves_of(tree)]
    found = []
    for i, heights in enumerate(yes):
        low = all_lifted(ground, (), heights)
        if leaf_in(ground, dict(low), tree) != i:
            continue
        for j, others in enumerate(yes):
            high = all_lifted(ground, low, others)
            if j != i and leaf_in(ground, dict(high), tree) == j:
                found.append((low, high))
    return found


def parted(program):
    ground = ground_of(program)
    trees = trees_by_case(program)
    # Many pairs go on from the same standing, so what it comes to is kept.
    ends = {}
    for case, low, high in plain_pairs(program):
        later = joined_standings(ground, done(program, low, case), high)
        for start in (high, later):
            if start not in ends:
                ends[start] = plain_end(ground, trees, start)
        if are_unlike(ends[high], ends[later]):
            one = puts_of(high) + deeds_of(0, ends[high][0])
            other = puts_of(low) + deeds_of(0, (case,)) + puts_of(high) + deeds_of(0, ends[later][0])
            return ((1, one), (1, other))
    return None


def are_unlike(one, other):
    return one is not None and other is not None and one[1] != other[1]


def puts_of(standing):
    return tuple([("put", 0, thing, height) for thing, height in standing])


def verdict(program):
    told = rising(program)
    if told[0] == "rises":
        return ("one", told[1])
    runs = parted(program)
    return ("open", told) if runs is None else ("parts",) + runs
