"""The parting checker: two runs that show that a program does not come to one end."""

from onlyrise.ended import is_ended
from onlyrise.errors import NoDeed, NoPaper
from onlyrise.halls import MOST_HANDS, put_in, run, standing_of
from onlyrise.kinds import is_count, is_tuple


def lets_parting(program, one, other):
    halls = [ended_hall(program, k, thing) for k, thing in enumerate((one, other))]
    if put_in(program, halls[0]) != put_in(program, halls[1]):
        raise NoPaper("put", 0)
    if standing_of(halls[0], 0) == standing_of(halls[1], 0):
        raise NoPaper("alike", 0)
    return True


def ended_hall(program, k, thing):
    if not is_run(thing):
        raise NoPaper("run", k)
    try:
        hall = run(program, thing[0], thing[1])
    except NoDeed:
        raise NoPaper("run", k) from None
    if not is_ended(program, hall):
        raise NoPaper("ended", k)
    return hall


def is_run(thing):
    # What its deeds are is looked at where their turn comes.
    return is_tuple(thing, 2, 2) and is_count(thing[0]) and 1 <= thing[0] <= MOST_HANDS and isinstance(thing[1], tuple)
