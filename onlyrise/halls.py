"""Halls: hands with their standings, the letters between them, and the deeds that they do."""

from onlyrise.doing import done
from onlyrise.errors import NoDeed
from onlyrise.kinds import is_count, is_tuple
from onlyrise.roofs import all_joined, is_roof, is_under
from onlyrise.standings import height_in, lifted
from onlyrise.things import is_risen, is_thing
from onlyrise.trees import ground_of, is_case

MOST_HANDS = 4


def first_hall(program, many):
    nothing = ((),) * many
    return (nothing, (), nothing, ((None,) * many,) * many)


def standing_of(hall, hand):
    return hall[0][hand]


def caps_known(hall, hand):
    return hall[3][hand]


def put_in(program, hall):
    return all_joined(ground_of(program), hall[2])


def run(program, many, deeds):
    hall = first_hall(program, many)
    for place, deed in enumerate(deeds):
        try:
            hall = deed_done(program, hall, deed)
        except NoDeed:
            raise NoDeed(place) from None
    return hall


def deed_done(program, hall, deed):
    if not is_tuple(deed, 3, 4) or not is_hand(hall, deed[1]):
        raise NoDeed(0)
    sort = deed[0]
    hand = deed[1]
    ground = ground_of(program)
    if len(deed) == 4:
        if sort != "put" or not is_risen(ground, deed[2], deed[3]):
            raise NoDeed(0)
        return with_put(ground, hall, hand, deed[2], deed[3])
    what = deed[2]
    if sort == "do" and is_case(program, what):
        return with_standing(hall, hand, done(program, hall[0][hand], what))
    if sort == "send" and is_thing(ground, what):
        return with_letter(hall, ("rise", what, height_in(ground, hall[0][hand], what)))
    if sort == "come" and is_count(what) and what < len(hall[1]):
        return with_come(ground, hall, hand, hall[1][what])
    if sort == "cap" and is_roof(ground, what):
        return with_own_cap(ground, hall, hand, what)
    if sort == "tell" and is_hand(hall, what) and hall[3][hand][what] is not None:
        return with_letter(hall, ("cap", what, hall[3][hand][what]))
    raise NoDeed(0)


def is_hand(hall, thing):
    return is_count(thing) and thing < len(hall[0])


def with_put(ground, hall, hand, thing, height):
    puts = lifted(ground, hall[2][hand], thing, height)
    cap = hall[3][hand][hand]
    if cap is not None and not is_under(ground, puts, cap):
        raise NoDeed(0)
    standings = placed(hall[0], hand, lifted(ground, hall[0][hand], thing, height))
    return (standings, hall[1], placed(hall[2], hand, puts), hall[3])


def with_come(ground, hall, hand, letter):
    if letter[0] == "rise":
        return with_standing(hall, hand, lifted(ground, hall[0][hand], letter[1], letter[2]))
    known = hall[3][hand][letter[1]]
    if known is not None and not is_under(ground, letter[2], known):
        return hall
    return with_cap(hall, hand, letter[1], letter[2])


def with_own_cap(ground, hall, hand, roof):
    cap = hall[3][hand][hand]
    if not is_under(ground, hall[2][hand], roof) or (cap is not None and not is_under(ground, roof, cap)):
        raise NoDeed(0)
    return with_cap(hall, hand, hand, roof)


def with_standing(hall, hand, standing):
    return (placed(hall[0], hand, standing), hall[1], hall[2], hall[3])


def with_letter(hall, letter):
    return (hall[0], hall[1] + (letter,), hall[2], hall[3])


def with_cap(hall, hand, other, roof):
    known = placed(hall[3][hand], other, roof)
    return (hall[0], hall[1], hall[2], placed(hall[3], hand, known))


def placed(things, place, thing):
    return things[:place] + (thing,) + things[place + 1:]
