import copy
import random
import unittest

from onlyrise.askings import word_between
from onlyrise.doing import walked
from onlyrise.halls import run
from onlyrise.looks import hand_word, look
from onlyrise.roofs import joined_roofs, widest
from onlyrise.telling import plain_way
from onlyrise.wordchecker import lets_word
from tests.rules import NOTHING, X, Y, Z, ask, just, put, small, some_asking, some_hall, some_program, some_roof
from tests.samples import same

GIVEN = small(ask(X, 2, put(just(Y, 5)), NOTHING))
GROUND = GIVEN[:2]
WIDEST = widest(GROUND)


class Look(unittest.TestCase):
    def looks(self, many, deeds, looks):
        hall = run(GIVEN, many, deeds)
        kept = copy.deepcopy(hall)
        for hand, told in enumerate(looks):
            self.assertTrue(same(look(GIVEN, hall, hand), told), (hand, look(GIVEN, hall, hand)))
        self.assertTrue(same(hall, kept))

    def test_no_caps(self):
        for many in range(1, 5):
            self.looks(many, (), [((), WIDEST)] * many)
        self.looks(2, [("put", 1, X, 3)], [((), WIDEST), (((X, 3),), WIDEST)])

    def test_one_hand(self):
        self.looks(1, [("cap", 0, ((X, 3), (Y, "*")))], [((), ((X, 3), (Y, "*")))])
        self.looks(1, [("cap", 0, ())], [((), ())])
        self.looks(1, [("cap", 0, ((X, 3),)), ("put", 0, X, 2), ("do", 0, (0, ())), ("cap", 0, ((X, 2),))], [(((X, 2), (Y, 5)), ((X, 2),))])

    def test_all_caps_known(self):
        deeds = [("cap", 0, ((X, 3),)), ("cap", 1, ((X, 1), (Z, 4))), ("tell", 0, 0), ("tell", 1, 1), ("come", 1, 0), ("come", 0, 1)]
        self.looks(2, deeds, [((), ((X, 3), (Z, 4)))] * 2)
        self.looks(2, deeds[:-1], [((), WIDEST), ((), ((X, 3), (Z, 4)))])
        self.looks(2, deeds[:-2], [((), WIDEST)] * 2)
        self.looks(3, deeds, [((), WIDEST)] * 3)
        more = [("cap", 2, ((Y, "*"),)), ("tell", 2, 2), ("come", 0, 2), ("come", 2, 0)]
        self.looks(3, deeds + more, [((), ((X, 3), (Y, "*"), (Z, 4))), ((), WIDEST), ((), WIDEST)])

    def test_its_own_is_known_and_no_other(self):
        self.looks(2, [("cap", 0, ())], [((), WIDEST), ((), WIDEST)])
        self.looks(2, [("cap", 0, ()), ("cap", 1, ())], [((), WIDEST), ((), WIDEST)])

    def test_caps_by_a_third_hand(self):
        deeds = [("cap", 0, ((X, 3),)), ("tell", 0, 0), ("come", 1, 0), ("cap", 1, ()), ("tell", 1, 1), ("tell", 1, 0), ("cap", 2, ((X, 4),)),
                 ("come", 2, 2), ("come", 2, 1)]
        self.looks(3, deeds, [((), WIDEST), ((), WIDEST), ((), ((X, 4),))])

    def test_lowered_caps(self):
        deeds = [("cap", 0, ((X, 9),)), ("tell", 0, 0), ("cap", 0, ((X, 4),)), ("tell", 0, 0), ("cap", 1, ())]
        self.looks(2, deeds + [("come", 1, 0)], [((), WIDEST), ((), ((X, 9),))])
        self.looks(2, deeds + [("come", 1, 1)], [((), WIDEST), ((), ((X, 4),))])
        self.looks(2, deeds + [("come", 1, 1), ("come", 1, 0)], [((), WIDEST), ((), ((X, 4),))])


class HandWord(unittest.TestCase):
    CAPS = [("cap", 0, ((X, 1),)), ("cap", 1, ((X, 1),)), ("tell", 0, 0), ("tell", 1, 1), ("come", 1, 0), ("come", 0, 1)]

    def words(self, deeds, asking, words):
        hall = run(GIVEN, len(words), deeds)
        for hand, word in enumerate(words):
            told = hand_word(GIVEN, hall, hand, asking)
            self.assertIs(type(told), tuple)
            self.assertEqual(told[0], word, (hand, told))
            if word == "open":
                self.assertTrue(same(told, ("open",)))
            else:
                self.assertIs(lets_word(GIVEN, *look(GIVEN, hall, hand), asking, told), True)

    def test_words(self):
        asking = ("least", Y, 5)
        self.words([], asking, ["open"])
        self.words([("put", 0, X, 2)], asking, ["yes"])
        self.words([("put", 0, X, 2)], asking, ["yes", "open"])
        self.words([("cap", 0, ((X, 1),))], asking, ["no"])
        self.words([("cap", 0, ((X, 1),))], asking, ["open", "open"])
        self.words(self.CAPS, asking, ["no", "no"])
        self.words(self.CAPS[:-1], asking, ["open", "no"])
        self.words(self.CAPS[:-1], ("not", asking), ["open", "yes"])
        self.words(self.CAPS, asking, ["open", "open", "open"])

    def test_by_the_plain_way_from_the_look(self):
        chance = random.Random(51)
        seen = set()
        for number in range(300):
            given = some_program(chance)
            hall = some_hall(chance, given, 2)
            caps = tuple(joined_roofs(given[:2], hall[2][hand], some_roof(chance, given[:2], 2)) for hand in (0, 1))
            hall = hall[:3] + ((caps if chance.random() < 0.7 else (caps[0], None), (None, caps[1])),)
            asking = some_asking(chance, given[:2])
            for hand in (0, 1):
                standing, roof = look(given, hall, hand)
                cases, high = plain_way(given, standing, roof)
                word = word_between(given[:2], walked(given, standing, cases), high, asking)
                told = hand_word(given, hall, hand, asking)
                seen.add(told[0])
                self.assertEqual(told[0], word)
                if word != "open":
                    self.assertIs(lets_word(given, standing, roof, asking, told), True)
        self.assertEqual(seen, {"yes", "no", "open"})


if __name__ == "__main__":
    unittest.main()
