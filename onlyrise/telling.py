"""The plain way to a word that is told early."""

from onlyrise.askings import word_between
from onlyrise.doing import walked
from onlyrise.ends import rounds_along, rounds_from, trees_by_case
from onlyrise.roofs import NO_BOUND, joined_roofs
from onlyrise.trees import ground_of

MOST_CASES = 100
# From the round behind these on, what still rises gets no bound: so the roof comes to rest.
ROUNDS_WITH_BOUNDS = 12


def plain_way(program, low, high):
    found = rounds_from(program, low, MOST_CASES)
    return (found[0], roof_at_rest(program, joined_roofs(ground_of(program), high, found[1])))


def roof_at_rest(program, roof):
    trees = trees_by_case(program)
    rounds = 0
    closed = False
    while not closed:
        found = rounds_along(ground_of(program), trees, roof, len(trees), 1)
        rounds += 1
        closed = found[2]
        roof = found[1] if rounds <= ROUNDS_WITH_BOUNDS else without_bounds(roof, found[1])
    return roof


def without_bounds(ahead, roof):
    # What has risen gets no bound. None is never a bound in a roof, so what lacked there has risen, too.
    bounds = dict(ahead)
    return tuple([(thing, bound if bounds.get(thing) == bound else NO_BOUND) for thing, bound in roof])


def word_told(program, low, high, asking):
    way = plain_way(program, low, high)
    word = word_between(ground_of(program), walked(program, low, way[0]), way[1], asking)
    return ("open",) if word == "open" else (word,) + way
