"""Standings. Each is a roof, too, one that has a height for every bound: so roofs do their work."""

from onlyrise.roofs import NO_BOUND, bound_in, is_roof, is_under, joined_roofs, raised


def is_standing(ground, thing):
    return is_roof(ground, thing) and all([height != NO_BOUND for named, height in thing])


def height_in(ground, standing, thing):
    return bound_in(ground, standing, thing)


def lifted(ground, standing, thing, height):
    return raised(ground, standing, thing, height)


def all_lifted(ground, standing, entries):
    # One thing may stand in several of the entries.
    for thing, height in entries:
        standing = lifted(ground, standing, thing, height)
    return standing


def joined_standings(ground, one, other):
    return joined_roofs(ground, one, other)


def is_over(ground, one, other):
    return is_under(ground, other, one)
