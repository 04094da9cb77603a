import unittest

from onlyrise.errors import NoPaper
from onlyrise.roofs import widest
from onlyrise.wordchecker import lets_word
from tests import samples
from tests.rules import L, NOTHING, X, Y, Z, ask, just, n, program, put, refusal, refused_alike, small
from tests.samples import OTHER_THINGS, TWENTY

# X at least 2 makes Y 5; Y at least 9 makes Z 1.
GIVEN = small(ask(X, 2, put(just(Y, 5)), NOTHING), ask(Y, 9, put(just(Z, 1)), NOTHING))
ONE, OTHER = (0, ()), (1, ())
Y_FIVE, Z_ONE = ("least", Y, 5), ("least", Z, 1)
LOW, HIGH = ((X, 2),), ((X, 7),)
ROOF = ((X, 7), (Y, 5))


class Checked(unittest.TestCase):
    def let_by(self, asking, thing, low=LOW, high=HIGH, given=GIVEN):
        self.assertIs(lets_word(given, low, high, asking, thing), True)
        # The other word by the same paper is none.
        turned = ("no" if thing[0] == "yes" else "yes",) + thing[1:]
        self.refused(asking, turned, "word", 0, low, high, given)
        self.assertIs(lets_word(given, low, high, ("not", asking), turned), True)

    def refused(self, asking, thing, word, number, low=LOW, high=HIGH, given=GIVEN):
        refused_alike(self, lets_word, (given, low, high, asking, thing), (NoPaper, (word, number)))


class LetBy(Checked):
    def test_yes(self):
        self.let_by(Y_FIVE, ("yes", (ONE,), ROOF))
        self.let_by(Y_FIVE, ("yes", (ONE, OTHER, ONE, ONE), ROOF))
        self.let_by(Y_FIVE, ("yes", (ONE,), widest(GIVEN[:2])))
        self.let_by(("least", X, 2), ("yes", (), ROOF))
        self.let_by(("least", X, 0), ("yes", (), ROOF))

    def test_no(self):
        self.let_by(Z_ONE, ("no", (), ROOF))
        self.let_by(Z_ONE, ("no", (ONE,), ROOF))
        self.let_by(("least", X, 8), ("no", (), ROOF))
        self.let_by(("least", X, 8), ("no", (), ((X, 7), (Y, 8))))
        self.let_by(("least", L, 4), ("no", (), ((X, "*"), (Y, "*"), (Z, "*"))))
        self.let_by(("both", Y_FIVE, Z_ONE), ("no", (), ROOF))

    def test_no_rules(self):
        self.let_by(Y_FIVE, ("no", (), HIGH), given=small())
        self.let_by(Y_FIVE, ("no", (), ()), low=(), high=(), given=small())

    def test_roofs_wider_than_need_be(self):
        for roof in (((X, 7), (Y, 5)), ((X, 7), (Y, 8)), ((L, 1), (X, 9), (Y, 6)), ((X, "*"), (Y, 5))):
            self.let_by(Z_ONE, ("no", (ONE,), roof))

    def test_endless_programs(self):
        given = small(put((X, ("plus", X, 1))), ask(Y, 1, put(just(Z, 1)), NOTHING))
        case = (0, ())
        self.let_by(("least", X, 3), ("yes", (case,) * 3, ((X, "*"),)), (), (), given)
        self.let_by(Z_ONE, ("no", (), ((X, "*"),)), (), (), given)
        self.refused(Z_ONE, ("no", (), ((X, TWENTY),)), "closed", 0, (), (), given)
        self.refused(("least", X, 3), ("yes", (case,) * 2, ((X, "*"),)), "word", 0, (), (), given)

    def test_low_above_high(self):
        # What was put in lies under high; what a hand stands at may be above it.
        self.let_by(Z_ONE, ("no", (), ((X, 3), (Y, 6))), low=((X, 2), (Y, 6)), high=((X, 3),))
        self.refused(Z_ONE, ("no", (), ROOF), "low", 0, low=((X, 2), (Y, 6)), high=((X, 3),))

    def test_named_cases(self):
        given = program(ask(n("A"), 2, put((n("B"), ("of", n("A")))), NOTHING))
        low = ((n("a"), 3),)
        roof = ((n("a"), 3), (n("b"), 3))
        asking = ("least", n("b"), 3)
        self.let_by(asking, ("yes", ((0, ("a", "b")),), roof), low, low, given)
        self.refused(asking, ("yes", ((0, ("b", "a")),), roof), "word", 0, low, low, given)
        self.refused(asking, ("yes", ((0, ("a",)),), roof), "case", 0, low, low, given)
        # The first case that changes it is that of a and b, the second one in all.
        self.refused(asking, ("yes", ((0, ("a", "b")),), ((n("a"), 4), (n("b"), 3))), "closed", 1, low, low, given)
        self.refused(asking, ("yes", ((0, ("a", "b")),), ((n("a"), 3), (n("b"), 4))), "closed", 2, low, low, given)


class Refused(Checked):
    def test_shape(self):
        good = ("yes", (ONE,), ROOF)
        self.assertIs(lets_word(GIVEN, LOW, HIGH, Y_FIVE, good), True)
        for thing in OTHER_THINGS + (good[:2], good + ((),), list(good), ("open", (ONE,), ROOF), ("Yes", (ONE,), ROOF), (True, (ONE,), ROOF),
                                     (None, (ONE,), ROOF), (("yes",), (ONE,), ROOF), (["yes"], (ONE,), ROOF), ("yes", [ONE], ROOF),
                                     ("yes", None, ROOF), ("yes", "", ROOF), ("yes", 0, ROOF), ("yes", (ONE,), None), ("yes", (ONE,), list(ROOF)),
                                     ("yes", (ONE,), "*"), ("yes", (ONE,), ((X, 7), [Y, 5])), ("yes", (ONE,), ((Y, 5), (X, 7))),
                                     ("yes", (ONE,), ((X, 7), (Y, True))), ("yes", (ONE,), ((X, 7), (Y, 5), (Z, 0))),
                                     ("yes", (ONE,), ((X, 7), (Y, 5), (("q",), 1))), ("yes", (ONE,), ((X, 7), (X, 7), (Y, 5))),
                                     ("yes", (ONE,), ((X, 7), (Y, None))), ("yes", (ONE,), ((["x"], 7), (Y, 5))), samples.nested(good, 20),
                                     ((ONE,), "yes", ROOF), ("yes", ROOF, (ONE,)), tuple([0] * 9000), ("open",)):
            self.refused(Y_FIVE, thing, "shape", 0)

    def test_case(self):
        for thing in OTHER_THINGS + ((2, ()), (-1, ()), (True, ()), (False, ()), (0, []), [0, ()], (0, ("a",)), (0,), (0, (), ()), ("0", ()),
                                     (0, None), (TWENTY, ()), ((0, ()),)):
            self.refused(Y_FIVE, ("yes", (thing,), ROOF), "case", 0)
            self.refused(Y_FIVE, ("yes", (ONE, OTHER, thing, thing), ROOF), "case", 2)

    def test_roof(self):
        for high in (((X, 8),), ((X, "*"),), ((L, 3), (X, 7)), ((X, 7), (Y, 6)), ((X, 7), (Y, 5), (Z, "*"))):
            self.refused(Y_FIVE, ("yes", (ONE,), ROOF), "roof", 0, high=high)
        self.refused(Y_FIVE, ("yes", (ONE,), ROOF), "roof", 0, high=widest(GIVEN[:2]))

    def test_low(self):
        # The standing behind the cases counts, not that ahead of them.
        self.refused(Y_FIVE, ("yes", (ONE,), HIGH), "low", 0)
        self.refused(Y_FIVE, ("yes", (), ROOF), "low", 0, low=((X, 2), (Z, 1)))
        self.refused(Y_FIVE, ("yes", (), ROOF), "low", 0, low=((X, 8),))

    def test_closed(self):
        self.refused(Y_FIVE, ("yes", (), HIGH), "closed", 0)
        self.refused(Y_FIVE, ("yes", (), ((X, 7), (Y, 4))), "closed", 0)
        self.refused(Y_FIVE, ("yes", (), ((X, 7), (Y, 9))), "closed", 1)
        self.refused(Y_FIVE, ("yes", (), ((X, 7), (Y, "*"))), "closed", 1)
        # What low and high can not come to counts not: the roof does.
        self.refused(Y_FIVE, ("yes", (), ((X, "*"),)), "closed", 0)

    def test_word(self):
        self.refused(Y_FIVE, ("no", (ONE,), ROOF), "word", 0)
        self.refused(Y_FIVE, ("yes", (), ROOF), "word", 0)
        self.refused(Y_FIVE, ("no", (), ROOF), "word", 0)
        self.refused(Z_ONE, ("yes", (), ROOF), "word", 0)
        self.refused(Z_ONE, ("no", (), widest(GIVEN[:2])), "word", 0)
        self.refused(("either", Z_ONE, ("not", Z_ONE)), ("yes", (), widest(GIVEN[:2])), "word", 0)

    def test_the_order_of_refusals(self):
        no_case = (9, ())
        # Each thing here has all that is refused later on, too.
        self.refused(Y_FIVE, ("no", (no_case,), ((X, 0),)), "shape", 0)
        self.refused(Y_FIVE, ("no", (ONE, no_case), ((X, 1),)), "case", 1)
        self.refused(Y_FIVE, ("no", (ONE,), ((X, 1),)), "roof", 0)
        self.refused(Y_FIVE, ("no", (ONE,), ((X, 7),)), "low", 0)
        self.refused(Y_FIVE, ("no", (ONE,), ((X, 7), (Y, 9))), "closed", 1)
        self.refused(Y_FIVE, ("no", (ONE,), ((X, 7), (Y, 8))), "word", 0)
        # Both cases change this roof, the first one is told.
        self.refused(Y_FIVE, ("no", (), ((X, 2), (Y, "*"))), "closed", 0, high=(), given=small(put((X, ("of", Y))), *GIVEN[2][1:]))

    def test_many_cases(self):
        cases = (ONE, OTHER) * 900
        self.let_by(Y_FIVE, ("yes", cases, ROOF))
        self.refused(Y_FIVE, ("yes", cases + ((2, ()),), ROOF), "case", 1800)

    def test_nothing_hangs_on_what_was_asked_before(self):
        good = ("yes", (ONE,), ROOF)
        for turn in range(3):
            self.assertEqual(refusal(lets_word, GIVEN, LOW, HIGH, Y_FIVE, good), (None, True))
            self.assertEqual(refusal(lets_word, GIVEN, LOW, ((X, 8),), Y_FIVE, good), (NoPaper, ("roof", 0)))


if __name__ == "__main__":
    unittest.main()
