"""Cases done on roofs: they are done there as on standings."""

from onlyrise.doing import done, is_closed, value_of


def bound_by(ground, bounds, term):
    return value_of(ground, bounds, term)


def roof_done(program, roof, case):
    return done(program, roof, case)


def is_closed_roof(program, roof):
    return is_closed(program, roof)
