"""Ends sought by rounds, and papers for them."""

from onlyrise.doing import risen_by
from onlyrise.endchecker import link_of
from onlyrise.roofs import roof_by
from onlyrise.trees import cases_of, ground_of, leaves_of, named_rule

MOST_DONE = 200


def rounds_from(program, standing, most):
    # Each round but the last does a case, so there are never more rounds than that.
    return rounds_along(ground_of(program), trees_by_case(program), standing, most, most + 1)


def trees_by_case(program):
    return [(case, named_rule(program, case)) for case in cases_of(program)]


def rounds_along(ground, trees, standing, most_cases, most_rounds):
    # Told is (cases done, standing behind them, whether it is closed).
    heights = dict(standing)
    cases = []
    closed = False
    while not closed and most_rounds > 0:
        ahead = len(cases)
        for case, tree in trees:
            risen = risen_by(ground, heights, tree)
            if len(risen) == 0:
                continue
            if len(cases) == most_cases:
                return (tuple(cases), roof_by(heights), False)
            cases.append(case)
            heights.update(risen)
        closed = len(cases) == ahead
        most_rounds -= 1
    return (tuple(cases), roof_by(heights), closed)


def least_closed(program, standing):
    found = rounds_from(program, standing, MOST_DONE)
    return found[1] if found[2] else None


def end_of(program, standing):
    found = rounds_from(program, standing, MOST_DONE)
    if found[2]:
        return ("end", found[0])
    ring = ring_at(links_by_source(program, found[1]))
    return ("open",) if ring is None else ("endless", found[0], ring)


def links_by_source(program, standing):
    # By each source, the list of (thing put from it, number added, step of a ring).
    links = {}
    for case in cases_of(program):
        puts = leaves_of(program[2][case[0]])[0][1]
        for place in range(len(puts)):
            step = (case, place)
            link = link_of(program, standing, step)
            if link is not None:
                links.setdefault(link[1], []).append((link[0], link[2], step))
    return links


def ring_at(links):
    # Numbers never sink along a ring, so one grows just where it has a link that adds.
    for source in links:
        for thing, added, step in links[source]:
            back = steps_between(links, thing, source) if added > 0 else None
            if back is not None:
                return (step,) + back
    return None


def steps_between(links, start, goal):
    # The steps from the start to each thing that can be come to from there, in ever wider reach.
    steps = {start: ()}
    found = [start]
    seen = 0
    while seen < len(found):
        source = found[seen]
        for thing, added, step in links.get(source, []):
            if thing not in steps:
                steps[thing] = steps[source] + (step,)
                found.append(thing)
        seen += 1
    return steps.get(goal)
