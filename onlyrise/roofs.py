"""Roofs: bounds of things, each a height or no bound at all."""

from onlyrise.heights import at_least, joined, least, met
from onlyrise.kinds import is_tuple
from onlyrise.orders import is_height
from onlyrise.things import is_thing, order_of, things_of

# No height is this text, as no name has such a sign.
NO_BOUND = "*"


def is_roof(ground, thing):
    if not isinstance(thing, tuple) or not all([is_entry(ground, entry) for entry in thing]):
        return False
    things = [entry[0] for entry in thing]
    return all([one < other for one, other in zip(things, things[1:])])


def is_entry(ground, thing):
    return is_tuple(thing, 2, 2) and is_thing(ground, thing[0]) and is_bound(order_of(ground, thing[0]), thing[1])


def is_bound(order, thing):
    return thing == NO_BOUND or (is_height(order, thing) and thing != least(order))


def bound_in(ground, roof, thing):
    for other, bound in roof:
        if other == thing:
            return bound
    return least(order_of(ground, thing))


def raised(ground, roof, thing, bound):
    return joined_roofs(ground, roof, ((thing, bound),))


def joined_roofs(ground, one, other):
    higher = above(ground, other, one)
    if len(higher) == 0:
        return one
    bounds = dict(one)
    for thing, bound in higher:
        # It is not under what it is joined with, so they join to more than the least.
        bounds[thing] = joined_bounds(order_of(ground, thing), bound_in(ground, one, thing), bound)
    return roof_by(bounds)


def roof_by(bounds):
    return tuple([(thing, bounds[thing]) for thing in sorted(bounds)])


def all_joined(ground, roofs):
    found = ()
    for roof in roofs:
        found = joined_roofs(ground, found, roof)
    return found


def joined_bounds(order, one, other):
    if one == NO_BOUND or other == NO_BOUND:
        return NO_BOUND
    return joined(order, one, other)


def met_bounds(order, one, other):
    if one == NO_BOUND or other == NO_BOUND:
        return other if one == NO_BOUND else one
    return met(order, one, other)


def widest(ground):
    return tuple([(thing, NO_BOUND) for thing in things_of(ground)])


def is_under(ground, one, other):
    return len(above(ground, one, other)) == 0


def above(ground, one, other):
    # What the one does not have is least there, and so above nothing.
    found = []
    for thing, bound in one:
        if not fits_under(order_of(ground, thing), bound, bound_in(ground, other, thing)):
            found.append((thing, bound))
    return found


def fits_under(order, one, other):
    return other == NO_BOUND or (one != NO_BOUND and at_least(order, other, one))
