"""Ends sought by rounds, and papers for them."""

from onlyrise.doing import tree_done
from onlyrise.endchecker import link_of
from onlyrise.trees import cases_of, ground_of, leaves_of, named_rule

MOST_DONE = 200


def rounds_from(program, standing, most):
    # Told is (cases done, standing behind them, whether it is closed).
    trees = [(case, named_rule(program, case)) for case in cases_of(program)]
    cases = []
    ahead = -1
    while ahead < len(cases):
        ahead = len(cases)
        for case, tree in trees:
            higher = tree_done(ground_of(program), standing, tree)
            if higher == standing:
                continue
            if len(cases) == most:
                return (tuple(cases), standing, False)
            cases.append(case)
            standing = higher
    return (tuple(cases), standing, True)


def least_closed(program, standing):
    found = rounds_from(program, standing, MOST_DONE)
    return found[1] if found[2] else None


def end_of(program, standing):
    found = rounds_from(program, standing, MOST_DONE)
    if found[2]:
        return ("end", found[0])
    ring = ring_at(links_by_source(program, found[1]))
    return ("open",) if ring is None else ("endless", found[0], ring)


def links_by_source(program, standing):
    # By each source, the list of (thing put from it, number added, step of a ring).
    links = {}
    for case in cases_of(program):
        puts = leaves_of(program[2][case[0]])[0][1]
        for place in range(len(puts)):
            step = (case, place)
            link = link_of(program, standing, step)
            if link is not None:
                links.setdefault(link[1], []).append((link[0], link[2], step))
    return links


def ring_at(links):
    # Numbers never sink along a ring, so one grows just where it has a link that adds.
    for source in links:
        for thing, added, step in links[source]:
            back = steps_between(links, thing, source) if added > 0 else None
            if back is not None:
                return (step,) + back
    return None


def steps_between(links, start, goal):
    # The steps from the start to each thing that can be come to from there, in ever wider reach.
    steps = {start: ()}
    found = [start]
    seen = 0
    while seen < len(found):
        source = found[seen]
        for thing, added, step in links.get(source, []):
            if thing not in steps:
                steps[thing] = steps[source] + (step,)
                found.append(thing)
        seen += 1
    return steps.get(goal)
