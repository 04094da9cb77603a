"""The word checker: papers that show a word that is never taken back."""

from onlyrise.askings import word_between
from onlyrise.doing import first_change, walked
from onlyrise.endchecker import look_at_cases
from onlyrise.errors import NoPaper
from onlyrise.kinds import is_tuple
from onlyrise.roofs import is_roof, is_under
from onlyrise.trees import ground_of


def lets_word(program, low, high, asking, thing):
    ground = ground_of(program)
    if not is_word_paper(ground, thing):
        raise NoPaper("shape", 0)
    look_at_cases(program, thing[1])
    roof = thing[2]
    if not is_under(ground, high, roof):
        raise NoPaper("roof", 0)
    behind = walked(program, low, thing[1])
    if not is_under(ground, behind, roof):
        raise NoPaper("low", 0)
    number = first_change(program, roof)
    if number is not None:
        raise NoPaper("closed", number)
    if word_between(ground, behind, roof, asking) != thing[0]:
        raise NoPaper("word", 0)
    return True


def is_word_paper(ground, thing):
    if not is_tuple(thing, 3, 3) or thing[0] not in ("yes", "no"):
        return False
    return isinstance(thing[1], tuple) and is_roof(ground, thing[2])
