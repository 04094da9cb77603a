import copy
import random
import unittest

from onlyrise.doing import done
from onlyrise.ended import finish, is_ended
from onlyrise.ends import least_closed
from onlyrise.halls import deed_done, first_hall, put_in, run, standing_of
from onlyrise.rising import rising
from onlyrise.standings import is_over, joined_standings
from onlyrise.trees import cases_of
from tests.rules import L, NOTHING, X, Y, Z, ask, just, n, program, put, small, some_deed, some_hall, some_program
from tests.samples import TWENTY, same

X_MAKES_Y = ask(X, 1, put(just(Y, 1)), NOTHING)
Y_MAKES_Z = ask(Y, 1, put(just(Z, 1)), NOTHING)
# Each round does one of these alone: the last one first.
TURNED = small(Y_MAKES_Z, X_MAKES_Y)
X_AND_Y = small(X_MAKES_Y)


def counting(most):
    """X goes up to most, one at a time, and so one in each round."""
    return small(ask(X, most, NOTHING, put((X, ("plus", X, 1)))))


def plainly(given, hall, most=40):
    """The standing that the plain going-on comes to, as it is told: or None."""
    standing = ()
    for one in hall[0]:
        standing = joined_standings(given[:2], standing, one)
    for number in range(most):
        ahead = standing
        for case in cases_of(given):
            standing = done(given, standing, case)
        if standing == ahead:
            return standing
    return None


class IsEnded(unittest.TestCase):
    def ended(self, given, many, deeds, told):
        hall = run(given, many, deeds)
        kept = copy.deepcopy(hall)
        self.assertIs(is_ended(given, hall), told, hall)
        self.assertTrue(same(hall, kept))

    def test_first_halls(self):
        for many in range(1, 5):
            self.ended(small(), many, (), True)
            self.ended(TURNED, many, (), True)
            self.ended(counting(1), many, (), False)

    def test_unlike_standings(self):
        for many in range(2, 5):
            for hand in range(many):
                self.ended(small(), many, (("put", hand, L, 1),), False)
            self.ended(small(), many, [("put", hand, X, 1) for hand in range(many - 1)], False)
            self.ended(small(), many, [("put", hand, X, 1 + hand // (many - 1)) for hand in range(many)], False)

    def test_alike_and_closed(self):
        for many in range(1, 5):
            self.ended(small(), many, [("put", hand, X, 1) for hand in range(many)], True)
            self.ended(X_AND_Y, many, [("put", hand, X, 1) for hand in range(many)], False)
            self.ended(X_AND_Y, many, [("put", hand, thing, 1) for hand in range(many) for thing in (X, Y)], True)

    def test_alike_and_not_closed(self):
        self.ended(TURNED, 2, [("put", 0, X, 1), ("put", 1, X, 1)], False)
        self.ended(TURNED, 2, [("put", 0, X, 1), ("put", 1, X, 1), ("do", 0, (1, ())), ("do", 1, (1, ()))], False)
        done_by_both = [("do", hand, (k, ())) for k in (1, 0) for hand in (0, 1)]
        self.ended(TURNED, 2, [("put", 0, X, 1), ("put", 1, X, 1)] + done_by_both, True)
        self.ended(TURNED, 2, [("put", 0, X, 1), ("put", 1, X, 1)] + done_by_both[:-1], False)

    def test_each_case_counts(self):
        given = program(ask(n("A"), 3, put((n("B"), ("of", n("A")))), NOTHING))
        self.ended(given, 1, [("put", 0, n("a"), 2)], True)
        self.ended(given, 1, [("put", 0, n("a"), 3)], False)
        self.ended(given, 1, [("put", 0, n("b"), 3)], False)
        self.ended(given, 1, [("put", 0, n("b"), 3), ("put", 0, n("a"), 3)], True)

    def test_letters_that_have_not_come(self):
        deeds = [("put", 0, X, 1), ("send", 0, X), ("cap", 0, ((X, "*"),)), ("tell", 0, 0), ("put", 1, X, 1), ("send", 1, Y)]
        self.ended(small(), 2, deeds, True)
        self.ended(small(), 2, deeds + [("come", 1, 0)], True)
        self.ended(small(), 3, deeds, False)
        self.ended(small(), 3, deeds + [("come", 2, 0)], True)

    def test_only_standings_count(self):
        # The same was put in, or not, whoever knows of caps or not.
        self.ended(small(), 2, [("put", 0, X, 1), ("send", 0, X), ("come", 1, 0), ("cap", 1, ())], True)


class Finish(unittest.TestCase):
    def finishes(self, given, hall):
        kept = copy.deepcopy(hall)
        deeds = finish(given, hall)
        self.assertTrue(same(hall, kept))
        end = plainly(given, hall)
        if end is None:
            self.assertIs(deeds, None)
            return None
        self.assertIs(type(deeds), tuple)
        self.assertLessEqual({deed[0] for deed in deeds}, {"do", "send", "come"})
        behind = hall
        for deed in deeds:
            self.assertIs(type(deed), tuple)
            behind = deed_done(given, behind, deed)
        self.assertIs(is_ended(given, behind), True, (given, hall))
        self.assertTrue(same(behind[2:], hall[2:]))
        return (deeds, standing_of(behind, 0))

    def test_nothing_more_to_do(self):
        for many in range(1, 5):
            self.assertTrue(same(self.finishes(small(), first_hall(small(), many))[0], ()))
            hall = run(TURNED, many, [("put", hand, Z, 1) for hand in range(many)])
            self.assertTrue(same(self.finishes(TURNED, hall)[0], ()))

    def test_one_hand(self):
        hall = run(TURNED, 1, [("put", 0, X, 1)])
        deeds, end = self.finishes(TURNED, hall)
        self.assertEqual(deeds, (("do", 0, (1, ())), ("do", 0, (0, ()))))
        self.assertTrue(same(end, ((X, 1), (Y, 1), (Z, 1))))

    def test_several_hands(self):
        for many in range(2, 5):
            for hand in range(many):
                hall = run(TURNED, many, [("put", hand, X, 1), ("put", many - 1 - hand, L, 3)])
                self.assertTrue(same(self.finishes(TURNED, hall)[1], ((L, 3), (X, 1), (Y, 1), (Z, 1))))

    def test_what_no_hand_has_alone(self):
        given = small(ask(X, 1, ask(Y, 1, put(just(Z, 5)), NOTHING), NOTHING))
        hall = run(given, 2, [("put", 0, X, 1), ("put", 1, Y, 1)])
        self.assertTrue(same(self.finishes(given, hall)[1], ((X, 1), (Y, 1), (Z, 5))))
        # Heights of several hands join to one that none of them has.
        given = program(ask(("s",), ("a", "b"), put(just(("c",), "done")), NOTHING))
        hall = run(given, 3, [("put", 1, ("s",), ("a",)), ("put", 2, ("s",), ("b",))])
        self.assertTrue(same(self.finishes(given, hall)[1], ((("c",), "done"), (("s",), ("a", "b")))))

    def test_halls_with_letters(self):
        deeds = [("put", 1, X, 1), ("send", 0, X), ("send", 1, X), ("cap", 1, ((X, 4),)), ("tell", 1, 1), ("put", 0, Y, 2)]
        for more in ((), (("come", 0, 1),), (("come", 0, 2), ("come", 2, 1)), (("put", 2, L, TWENTY), ("send", 2, L))):
            hall = run(TURNED, 3, deeds + list(more))
            self.assertEqual(self.finishes(TURNED, hall)[1][-3:], ((X, 1), (Y, 2), (Z, 1)))

    def test_rounds(self):
        # The last round is the one that changes nothing.
        for most, told in ((0, 0), (1, 1), (2, 2), (38, 38), (39, 39), (40, None), (41, None), (300, None)):
            given = counting(most) if most else small(NOTHING)
            deeds = finish(given, first_hall(given, 1))
            self.assertEqual(None if deeds is None else len(deeds), told, most)
            self.finishes(given, first_hall(given, 3))

    def test_rounds_from_what_is_joined(self):
        given = counting(50)
        for height, told in ((10, None), (11, 39), (12, 38), (50, 0)):
            hall = run(given, 1, [("put", 0, X, height)])
            self.assertEqual(self.finishes(given, hall) and len(self.finishes(given, hall)[0]), told)
            self.assertIs(self.finishes(given, run(given, 4, [("put", 3, X, height)])) is None, told is None)

    def test_rounds_are_counted_not_cases(self):
        # Six cases in each round: more than 200 in all.
        given = small(*counting(39 * 6)[2] * 6)
        deeds, end = self.finishes(given, first_hall(given, 1))
        self.assertEqual((len(deeds), end), (234, ((X, 234),)))
        self.assertIs(least_closed(given, ()), None)
        self.assertIs(finish(small(*counting(39 * 6 + 1)[2] * 6), first_hall(given, 1)), None)

    def test_none_where_it_never_ends(self):
        given = small(put((X, ("plus", X, 1))))
        for many in (1, 4):
            self.assertIs(finish(given, first_hall(given, many)), None)
        doubling = small(put((X, ("sum", X, X))))
        self.assertIs(finish(doubling, run(doubling, 2, [("put", 1, X, 1)])), None)
        self.assertTrue(same(finish(doubling, first_hall(doubling, 2)), ()))

    def test_of_a_program_that_does_not_rise(self):
        given = small(ask(X, 1, NOTHING, put(just(Y, 2))))
        self.assertTrue(same(self.finishes(given, first_hall(given, 2))[1], ((Y, 2),)))
        self.assertTrue(same(self.finishes(given, run(given, 2, [("put", 1, X, 1)]))[1], ((X, 1),)))

    def test_any_halls(self):
        chance = random.Random(38)
        told = set()
        for number in range(400):
            given = some_program(chance)
            hall = some_hall(chance, given, chance.randrange(1, 5))
            behind = self.finishes(given, hall)
            told.add(behind is None)
            if behind is not None:
                self.assertTrue(same(behind[1], plainly(given, hall)))
        self.assertEqual(told, {True, False})


class InAProgramThatRises(unittest.TestCase):
    def test_all_ends_are_the_least_closed_standing(self):
        chance = random.Random(39)
        ended = 0
        for number in range(300):
            given = some_program(chance)
            if rising(given)[0] != "rises":
                continue
            hall = some_hall(chance, given, chance.randrange(1, 5), 40)
            end = least_closed(given, put_in(given, hall))
            deeds = finish(given, hall)
            if end is None:
                continue
            self.assertTrue(all(is_over(given[:2], end, standing) for standing in hall[0]))
            if deeds is not None:
                ended += 1
                behind = hall
                for deed in deeds:
                    behind = deed_done(given, behind, deed)
                    self.assertTrue(all(is_over(given[:2], end, standing) for standing in behind[0]))
                self.assertTrue(all(same(standing, end) for standing in behind[0]))
        self.assertGreater(ended, 100)

    def test_a_hall_that_ended_changes_no_more(self):
        chance = random.Random(37)
        seen = 0
        for number in range(200):
            given = some_program(chance)
            hall = some_hall(chance, given, chance.randrange(1, 4))
            deeds = finish(given, hall)
            if rising(given)[0] != "rises" or deeds is None:
                continue
            for deed in deeds:
                hall = deed_done(given, hall, deed)
            for place in range(20):
                deed = some_deed(chance, given, hall)
                if deed[0] != "put":
                    seen += 1
                    later = deed_done(given, hall, deed)
                    self.assertTrue(same(later[0], hall[0]))
                    hall = later
                    self.assertIs(is_ended(given, hall), True)
        self.assertGreater(seen, 500)


if __name__ == "__main__":
    unittest.main()
