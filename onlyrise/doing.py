"""Cases done on standings."""

from onlyrise.heights import at_least, joined, least, met
from onlyrise.roofs import roof_by
from onlyrise.things import order_of
from onlyrise.trees import cases_of, ground_of, leaves_of, named_rule, number_added, sources_of


def height_by(ground, heights, thing):
    return heights[thing] if thing in heights else least(order_of(ground, thing))


def goes_by_yes(ground, heights, asking):
    return at_least(order_of(ground, asking[1]), height_by(ground, heights, asking[1]), asking[2])


def leaf_at(program, standing, case):
    return leaf_in(ground_of(program), dict(standing), named_rule(program, case))


def leaf_in(ground, heights, tree):
    number = 0
    while tree[0] == "ask":
        if goes_by_yes(ground, heights, tree):
            tree = tree[3]
        else:
            number += len(leaves_of(tree[3]))
            tree = tree[4]
    return number


def puts_at(ground, heights, tree):
    while tree[0] == "ask":
        tree = tree[3] if goes_by_yes(ground, heights, tree) else tree[4]
    return tree[1]


def value_of(ground, heights, term):
    if term[0] == "just":
        return term[1]
    sources = [height_by(ground, heights, thing) for thing in sources_of(term)]
    return value_from(order_of(ground, term[1]), term, sources)


def value_from(order, term, heights):
    # The heights stand for the term's things place by place: papers may bound one thing by two unlike heights.
    if term[0] == "of":
        return heights[0]
    if term[0] == "meet":
        return met(order, heights[0], heights[1])
    if None in heights:
        return None
    return sum(heights) + number_added(term)


def values_put(ground, heights, puts):
    return [(thing, value_of(ground, heights, term)) for thing, term in puts]


def risen_by(ground, heights, tree):
    # The things that a tree's puts raise, each with the height that it rises to.
    risen = {}
    for thing, value in values_put(ground, heights, puts_at(ground, heights, tree)):
        order = order_of(ground, thing)
        # A put ahead may have raised it already; but the values are all told by the heights ahead of both.
        ahead = height_by(ground, risen if thing in risen else heights, thing)
        if not at_least(order, ahead, value):
            risen[thing] = joined(order, ahead, value)
    return risen


def tree_done(ground, standing, tree):
    heights = dict(standing)
    risen = risen_by(ground, heights, tree)
    if len(risen) == 0:
        return standing
    heights.update(risen)
    return roof_by(heights)


def done(program, standing, case):
    return tree_done(ground_of(program), standing, named_rule(program, case))


def walked(program, standing, cases):
    for case in cases:
        standing = done(program, standing, case)
    return standing


def is_closed(program, standing):
    return all([done(program, standing, case) == standing for case in cases_of(program)])
