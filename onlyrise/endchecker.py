"""The end checker: papers that show an end, or that there is none."""

from onlyrise.doing import is_closed, leaf_at, walked
from onlyrise.errors import NoPaper
from onlyrise.kinds import is_count, is_tuple
from onlyrise.things import order_of
from onlyrise.trees import ground_of, is_case, leaves_of, named_rule, number_added


def lets_end(program, standing, thing):
    if not is_end(thing) and not is_endless(thing):
        raise NoPaper("shape", 0)
    look_at_cases(program, thing[1])
    behind = walked(program, standing, thing[1])
    if thing[0] == "endless":
        return lets_ring(program, behind, thing[2])
    if not is_closed(program, behind):
        raise NoPaper("closed", 0)
    return True


def is_end(thing):
    return is_tuple(thing, 2, 2) and thing[0] == "end" and isinstance(thing[1], tuple)


def is_endless(thing):
    if not is_tuple(thing, 3, 3) or thing[0] != "endless" or not isinstance(thing[1], tuple):
        return False
    return isinstance(thing[2], tuple) and len(thing[2]) > 0


def look_at_cases(program, things):
    for number, thing in enumerate(things):
        if not is_case(program, thing):
            raise NoPaper("case", number)


def lets_ring(program, standing, ring):
    links = []
    for number, step in enumerate(ring):
        link = link_of(program, standing, step)
        if link is None:
            raise NoPaper("ring", number)
        links.append(link)
    for number, link in enumerate(links):
        # The place -1 is that of the last link, the one ahead of the first.
        if link[1] != links[number - 1][0]:
            raise NoPaper("source", number)
    if sum([link[2] for link in links]) < 1:
        raise NoPaper("grows", 0)
    return True


def link_of(program, standing, step):
    # Told is (thing put, its source, number added), or None where the step is none of a ring.
    if not is_tuple(step, 2, 2) or not is_case(program, step[0]) or not is_count(step[1]):
        return None
    # The path of leaf 0 is yes alone, so the standing comes to it just where it is so high at each asking.
    if leaf_at(program, standing, step[0]) != 0:
        return None
    puts = leaves_of(named_rule(program, step[0]))[0][1]
    if step[1] >= len(puts):
        return None
    thing = puts[step[1]][0]
    term = puts[step[1]][1]
    if order_of(ground_of(program), thing) != ("num",) or term[0] not in ("of", "plus"):
        return None
    return (thing, term[1], number_added(term))
