"""Cases done on standings, and likewise on roofs: a standing is a roof, too, so bounds are reckoned with all along."""

from onlyrise.heights import least
from onlyrise.roofs import NO_BOUND, fits_under, joined_bounds, met_bounds, roof_by
from onlyrise.things import order_of
from onlyrise.trees import cases_of, ground_of, leaves_of, named_rule, number_added, sources_of


def height_by(ground, heights, thing):
    return heights[thing] if thing in heights else least(order_of(ground, thing))


def goes_by_yes(ground, heights, asking):
    return fits_under(order_of(ground, asking[1]), asking[2], height_by(ground, heights, asking[1]))


def leaf_at(program, standing, case):
    return leaf_in(ground_of(program), dict(standing), named_rule(program, case))


def leaf_in(ground, heights, tree):
    number = 0
    while tree[0] == "ask":
        if goes_by_yes(ground, heights, tree):
            tree = tree[3]
        else:
            number += len(leaves_of(tree[3]))
            tree = tree[4]
    return number


def puts_at(ground, heights, tree):
    while tree[0] == "ask":
        tree = tree[3] if goes_by_yes(ground, heights, tree) else tree[4]
    return tree[1]


def value_of(ground, heights, term):
    if term[0] == "just":
        return term[1]
    sources = [height_by(ground, heights, thing) for thing in sources_of(term)]
    return value_from(order_of(ground, term[1]), term, sources)


def value_from(order, term, heights):
    # The heights stand for the term's things place by place: papers may bound one thing by two unlike heights.
    if term[0] == "of":
        return heights[0]
    if term[0] == "meet":
        return met_bounds(order, heights[0], heights[1])
    if None in heights:
        return None
    if NO_BOUND in heights:
        return NO_BOUND
    return sum(heights) + number_added(term)


def values_put(ground, heights, puts):
    return [(thing, value_of(ground, heights, term)) for thing, term in puts]


def risen_by(ground, heights, tree):
    # The things that a tree's puts raise, each with the height that it rises to.
    risen = {}
    for thing, value in values_put(ground, heights, puts_at(ground, heights, tree)):
        order = order_of(ground, thing)
        # A put ahead may have raised it already; but the values are all told by the heights ahead of both.
        ahead = height_by(ground, risen if thing in risen else heights, thing)
        if not fits_under(order, value, ahead):
            risen[thing] = joined_bounds(order, ahead, value)
    return risen


def tree_done(ground, standing, tree):
    heights = dict(standing)
    risen = risen_by(ground, heights, tree)
    if len(risen) == 0:
        return standing
    heights.update(risen)
    return roof_by(heights)


def done(program, standing, case):
    return tree_done(ground_of(program), standing, named_rule(program, case))


def walked(program, standing, cases):
    for case in cases:
        standing = done(program, standing, case)
    return standing


def is_closed(program, standing):
    return first_change(program, standing) is None


def first_change(program, standing):
    # The number of the first case that changes it, or None where it is closed.
    for number, case in enumerate(cases_of(program)):
        if done(program, standing, case) != standing:
            return number
    return None
