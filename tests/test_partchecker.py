import itertools
import unittest

from onlyrise.errors import NoPaper
from onlyrise.partchecker import lets_parting
from onlyrise.rising import rising
from tests import samples
from tests.rules import NOTHING, X, Y, Z, ask, just, put, refused_alike, small
from tests.samples import OTHER_THINGS, TWENTY

# Y rises only where it is done ahead of X.
FALLING = small(ask(X, 1, NOTHING, put(just(Y, 2))))
DO = ("do", 0, (0, ()))
PUT_X = ("put", 0, X, 1)
SOON = (1, (DO, PUT_X))
LATE = (1, (PUT_X,))
# Hand 1 does it ahead of the letter that bears X.
TWO_HANDS = (2, (PUT_X, ("send", 0, X), ("do", 1, (0, ())), ("come", 1, 0), ("send", 1, Y), ("come", 0, 1)))
NOT_ENDED = (1, ())
NOT_ALIKE = (2, (PUT_X,))


class Checked(unittest.TestCase):
    def let_by(self, one, other, given=FALLING):
        self.assertIs(lets_parting(given, one, other), True)
        self.assertIs(lets_parting(given, other, one), True)

    def refused(self, one, other, word, number, given=FALLING):
        refused_alike(self, lets_parting, (given, one, other), (NoPaper, (word, number)))


class LetBy(Checked):
    def test_two_runs_that_part(self):
        self.let_by(SOON, LATE)
        self.let_by(TWO_HANDS, LATE)
        self.let_by(SOON, (2, (PUT_X, ("put", 1, X, 1))))
        self.let_by(TWO_HANDS, (4, tuple(("put", hand, X, 1) for hand in range(4))))

    def test_what_was_put_in_counts_in_all(self):
        one = (3, tuple(("put", hand, X, height) for hand, height in ((0, 1), (0, 3), (1, 3), (2, 3))))
        self.let_by(one, (1, (DO, ("put", 0, X, 3))))
        self.refused(one, SOON, "put", 0)
        # A put of the least height puts in nothing.
        self.let_by((1, (DO, PUT_X, ("put", 0, Z, 0))), LATE)

    def test_other_deeds(self):
        one = (1, (("cap", 0, ((X, 1),)), ("tell", 0, 0), DO, ("come", 0, 0), PUT_X, ("send", 0, Y)))
        self.let_by(one, LATE)

    def test_four_hundred_deeds(self):
        self.let_by((1, (DO,) * 399 + (PUT_X,)), (1, (PUT_X,) + (DO,) * 399))
        self.refused((1, (DO,) * 399 + (("come", 0, 0),)), LATE, "run", 0)


class Refused(Checked):
    def test_no_run(self):
        for thing in OTHER_THINGS + (
                (1,), (1, (), ()), [1, (PUT_X,)], (1, [PUT_X]), (0, ()), (5, ()), (-1, ()), (TWENTY, ()), (True, (PUT_X,)), (False, ()),
                (None, ()), ("1", ()), ((1,), ()), (1, None), (1, "do"), (1, 0), ((PUT_X,), 1), (1, DO), samples.nested((), 28),
                (1, tuple([0] * 9000)), (1, {}.get("none"))):
            self.refused(thing, LATE, "run", 0)
            self.refused(LATE, thing, "run", 1)

    def test_many_0_and_5(self):
        for many, told in ((0, "run"), (1, None), (2, None), (3, None), (4, None), (5, "run"), (6, "run")):
            thing = (many, tuple(("put", hand, X, 1) for hand in range(many)))
            if told is None:
                self.let_by(thing, SOON)
            else:
                self.refused(thing, SOON, "run", 0)
                self.refused(SOON, thing, "run", 1)

    def test_a_deed_that_is_refused(self):
        for deed in (("do", 1, (0, ())), ("do", 0, (1, ())), ("put", 0, X, None), ("put", 0, X, True), ("come", 0, 0), ("come", 0, -1),
                     ("tell", 0, 0), ["do", 0, (0, ())], ("do", 0, [0, ()]), ("put", False, X, 1), None, (), ("wait", 0, 0)):
            for deeds in ((deed,), (DO, deed, PUT_X), (DO, PUT_X, deed)):
                self.refused((1, deeds), LATE, "run", 0)
                self.refused(LATE, (1, deeds), "run", 1)

    def test_not_ended(self):
        for thing in (NOT_ENDED, NOT_ALIKE, (1, (("put", 0, Y, 1),)), (2, (DO, PUT_X)), (4, TWO_HANDS[1])):
            self.refused(thing, LATE, "ended", 0)
            self.refused(LATE, thing, "ended", 1)

    def test_unlike_puts(self):
        for more in (("put", 0, X, 2), ("put", 0, Z, 1), ("put", 0, Y, 1)):
            self.refused((1, (DO, PUT_X, more)), LATE, "put", 0)
            self.refused(LATE, (1, (DO, PUT_X, more)), "put", 0)

    def test_alike(self):
        for thing in (SOON, LATE, TWO_HANDS):
            self.refused(thing, thing, "alike", 0)
        self.refused(SOON, TWO_HANDS, "alike", 0)
        # The hands' numbers, and letters, may be unlike.
        self.refused(LATE, (3, tuple(("put", hand, X, 1) for hand in range(3)) + (("send", 2, X),)), "alike", 0)

    def test_the_order_of_refusals(self):
        no_run = (1, (DO, ("come", 0, 0)))
        put_more = (1, (PUT_X, ("put", 0, Z, 1)))
        ranks = (no_run, NOT_ENDED)
        words = ("run", "ended")
        for one, other in itertools.product(range(2), repeat=2):
            # Both of the one go ahead of those of the other.
            self.refused(ranks[one], ranks[other], words[one], 0)
        for rank in range(2):
            for thing in (LATE, put_more):
                self.refused(thing, ranks[rank], words[rank], 1)
        # What was put in is looked at ahead of the standings: here both have the standing of X and Z.
        same_end = small(ask(X, 1, put(just(Z, 1)), NOTHING))
        self.refused((1, (PUT_X, DO)), (1, (PUT_X, ("put", 0, Z, 1))), "put", 0, same_end)
        self.refused((1, (PUT_X, DO)), (2, (PUT_X, DO, ("send", 0, X), ("send", 0, Z), ("come", 1, 0), ("come", 1, 1))), "alike", 0, same_end)

    def test_no_runs_part_a_program_that_rises(self):
        given = small(ask(X, 1, put(just(Y, 2)), NOTHING), ask(Y, 2, put(just(Z, 1)), NOTHING))
        self.assertEqual(rising(given)[0], "rises")
        deeds = (PUT_X, DO, ("do", 0, (1, ())), ("send", 0, X), ("send", 0, Y), ("come", 1, 0), ("come", 1, 1), ("do", 1, (0, ())), ("do", 1, (1, ())))
        seen = set()
        for order in itertools.permutations(deeds, 4):
            thing = (1, tuple(deed for deed in order))
            try:
                lets_parting(given, thing, (1, (PUT_X, DO, ("do", 0, (1, ())))))
            except NoPaper as error:
                seen.add((error.word, error.number))
        self.assertEqual(seen, {("run", 0), ("ended", 0), ("put", 0), ("alike", 0)})


if __name__ == "__main__":
    unittest.main()
