"""Cases done on standings."""

from onlyrise.heights import at_least, least, met
from onlyrise.standings import all_lifted
from onlyrise.things import order_of
from onlyrise.trees import cases_of, ground_of, leaves_of, named_rule, number_added, sources_of


def height_by(ground, heights, thing):
    return heights[thing] if thing in heights else least(order_of(ground, thing))


def goes_by_yes(ground, heights, asking):
    return at_least(order_of(ground, asking[1]), height_by(ground, heights, asking[1]), asking[2])


def leaf_at(program, standing, case):
    heights = dict(standing)
    tree = named_rule(program, case)
    number = 0
    while tree[0] == "ask":
        if goes_by_yes(ground_of(program), heights, tree):
            tree = tree[3]
        else:
            number += len(leaves_of(tree[3]))
            tree = tree[4]
    return number


def puts_at(ground, heights, tree):
    while tree[0] == "ask":
        tree = tree[3] if goes_by_yes(ground, heights, tree) else tree[4]
    return tree[1]


def value_of(ground, heights, term):
    if term[0] == "just":
        return term[1]
    sources = [height_by(ground, heights, thing) for thing in sources_of(term)]
    return value_from(order_of(ground, term[1]), term, sources)


def value_from(order, term, heights):
    # The heights stand for the term's things place by place: papers may bound one thing by two unlike heights.
    if term[0] == "of":
        return heights[0]
    if term[0] == "meet":
        return met(order, heights[0], heights[1])
    if None in heights:
        return None
    return sum(heights) + number_added(term)


def values_put(ground, heights, puts):
    return [(thing, value_of(ground, heights, term)) for thing, term in puts]


def tree_done(ground, standing, tree):
    # All values are told by the standing ahead, so before the first of them is joined in.
    heights = dict(standing)
    return all_lifted(ground, standing, values_put(ground, heights, puts_at(ground, heights, tree)))


def done(program, standing, case):
    return tree_done(ground_of(program), standing, named_rule(program, case))


def walked(program, standing, cases):
    for case in cases:
        standing = done(program, standing, case)
    return standing


def is_closed(program, standing):
    return all([done(program, standing, case) == standing for case in cases_of(program)])
