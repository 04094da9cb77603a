"""What a hand of a hall looks at, and the words that it may tell."""

from onlyrise.halls import caps_known, standing_of
from onlyrise.roofs import all_joined, widest
from onlyrise.telling import word_told
from onlyrise.trees import ground_of


def look(program, hall, hand):
    ground = ground_of(program)
    caps = caps_known(hall, hand)
    return (standing_of(hall, hand), widest(ground) if None in caps else all_joined(ground, caps))


def hand_word(program, hall, hand, asking):
    view = look(program, hall, hand)
    return word_told(program, view[0], view[1], asking)
