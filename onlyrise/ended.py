"""Halls that ended, and how a hall goes on till it has."""

from onlyrise.doing import is_closed
from onlyrise.ends import rounds_along, trees_by_case
from onlyrise.roofs import above, all_joined
from onlyrise.trees import ground_of

MOST_ROUNDS = 40


def is_ended(program, hall):
    first = hall[0][0]
    return all([standing == first for standing in hall[0]]) and is_closed(program, first)


def plain_end(ground, trees, standing):
    # Told is (cases done, closed standing behind them), or None where that many rounds come to none.
    found = rounds_along(ground, trees, standing, MOST_ROUNDS * len(trees), MOST_ROUNDS)
    return (found[0], found[1]) if found[2] else None


def finish(program, hall):
    # All goes to hand 0, which alone does the cases; what they lead to goes back to the others.
    ground = ground_of(program)
    behind = plain_end(ground, trees_by_case(program), all_joined(ground, hall[0]))
    if behind is None:
        return None
    to_first = roads_to_first(ground, hall[0])
    from_first = roads_from_first(ground, hall[0], behind[1])
    number = len(hall[1])
    return letters_by(to_first, number) + deeds_of(0, behind[0]) + letters_by(from_first, number + len(to_first))


def deeds_of(hand, cases):
    return tuple([("do", hand, case) for case in cases])


def roads_to_first(ground, standings):
    # Roads are tuples (from hand, to hand, thing); what would raise nothing is not sent.
    roads = []
    for hand, standing in enumerate(standings):
        roads.extend([(hand, 0, thing) for thing, height in above(ground, standing, standings[0])])
    return roads


def roads_from_first(ground, standings, behind):
    roads = []
    for hand, standing in enumerate(standings[1:], start=1):
        roads.extend([(0, hand, thing) for thing, height in above(ground, behind, standing)])
    return roads


def letters_by(roads, number):
    # The letters get the numbers from the given one on.
    deeds = []
    for place, road in enumerate(roads, start=number):
        deeds.extend([("send", road[0], road[2]), ("come", road[1], place)])
    return tuple(deeds)
