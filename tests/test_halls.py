import itertools
import unittest

from onlyrise.errors import NoDeed
from onlyrise.ends import least_closed
from onlyrise.halls import caps_known, deed_done, first_hall, put_in, run, standing_of
from onlyrise.roofs import widest
from onlyrise.standings import is_over
from onlyrise.trees import cases_of
from tests import samples
from tests.rules import GROUND, HEADS, NOTHING, ask, just, n, program, put, refusal
from tests.samples import OTHER_THINGS, TWENTY, same

C, S = ("c",), ("s",)
GIVEN = program(put((n("B"), ("plus", n("A"), 1))), ask(C, "done", put(just(S, ("a",))), NOTHING))
CASE = (0, ("a", "b"))


class Checked(unittest.TestCase):
    def hall(self, *deeds, many=2):
        return run(GIVEN, many, deeds)

    def told(self, hall, standings=None, letters=None, puts=None, caps=None):
        for place, part in enumerate((standings, letters, puts, caps)):
            if part is not None:
                self.assertTrue(same(hall[place], part), hall[place])
        self.assertIs(type(hall), tuple)
        self.assertEqual(len(hall), 4)

    def refused(self, hall, deed):
        self.assertEqual(refusal(deed_done, GIVEN, hall, deed), (NoDeed, (0,)), deed)


class FirstHall(Checked):
    def test_of_one_to_four_hands(self):
        for many in range(1, 5):
            nothing = ((),) * many
            self.assertTrue(same(first_hall(GIVEN, many), (nothing, (), nothing, ((None,) * many,) * many)))
            self.assertTrue(same(run(GIVEN, many, ()), first_hall(GIVEN, many)))
            self.assertTrue(same(run(GIVEN, many, []), first_hall(GIVEN, many)))


class Puts(Checked):
    def test_joined_into_the_standing_and_the_puts(self):
        hall = self.hall(("put", 0, n("a"), 3))
        self.told(hall, (((n("a"), 3),), ()), (), (((n("a"), 3),), ()), ((None, None), (None, None)))
        hall = self.hall(("put", 1, n("a"), 3), ("put", 1, S, ("b",)), ("put", 1, n("a"), 2), ("put", 1, S, ("c",)))
        self.told(hall, ((), ((n("a"), 3), (S, ("c", "b")))), (), ((), ((n("a"), 3), (S, ("c", "b")))))

    def test_puts_hold_what_was_put_in_alone(self):
        hall = self.hall(("put", 0, n("a"), 3), ("do", 0, CASE), ("put", 0, n("b"), 2))
        self.told(hall, (((n("a"), 3), (n("b"), 4)), ()), (), (((n("a"), 3), (n("b"), 2)), ()))

    def test_least_heights(self):
        hall = self.hall(("put", 0, n("a"), 0), ("put", 0, ("low", "b"), None), ("put", 1, C, "raw"), ("put", 1, S, ()))
        self.told(hall, ((), ()), (), ((), ()))
        self.refused(hall, ("put", 0, n("a"), None))

    def test_refused(self):
        hall = self.hall()
        for deed in (("put", 0, n("a")), ("put", 0, n("a"), 1, 1), ["put", 0, n("a"), 1], ("put", 2, n("a"), 1), ("put", -1, n("a"), 1),
                     ("put", True, n("a"), 1), ("put", False, n("a"), 1), ("put", None, n("a"), 1), ("put", "0", n("a"), 1),
                     ("put", (0,), n("a"), 1), ("put", 0, n("A"), 1), ("put", 0, n("c"), 1), ("put", 0, n(), 1), ("put", 0, ("x",), 1),
                     ("put", 0, ["n", "a"], 1), ("put", 0, "n", 1), ("put", 0, None, 1), ("put", 0, n("a"), -1), ("put", 0, n("a"), True),
                     ("put", 0, n("a"), "done"), ("put", 0, C, 1), ("put", 0, S, ["a"]), ("put", 0, S, ("a", "c")), ("put", 0, n("a"), "*"),
                     ("Put", 0, n("a"), 1), (0, "put", n("a"), 1), ("send", 0, n("a"), 1), ("do", 0, CASE, 1)):
            self.refused(hall, deed)

    def test_under_the_own_cap(self):
        hall = self.hall(("cap", 0, ((n("a"), 4), (S, ("a", "b")))))
        for deed in (("put", 0, n("a"), 4), ("put", 0, n("a"), 0), ("put", 0, S, ("b",)), ("put", 0, n("b"), 0), ("put", 1, n("a"), 9)):
            deed_done(GIVEN, hall, deed)
        for deed in (("put", 0, n("a"), 5), ("put", 0, n("b"), 1), ("put", 0, S, ("c",)), ("put", 0, C, "done")):
            self.refused(hall, deed)
        hall = deed_done(GIVEN, hall, ("put", 0, n("a"), 3))
        self.refused(hall, ("put", 0, n("a"), 5))
        self.told(deed_done(GIVEN, hall, ("put", 0, n("a"), 4)), puts=(((n("a"), 4),), ()))

    def test_its_puts_count_not_its_standing(self):
        hall = self.hall(("put", 0, n("a"), 9), ("send", 0, n("a")), ("come", 1, 0), ("cap", 1, ((n("a"), 3),)), ("put", 1, n("a"), 2))
        self.told(hall, (((n("a"), 9),), ((n("a"), 9),)), puts=(((n("a"), 9),), ((n("a"), 2),)))

    def test_another_hands_cap_does_not_count(self):
        hall = self.hall(("cap", 0, ((n("a"), 1),)), ("tell", 0, 0), ("come", 1, 0), ("put", 1, n("a"), 9))
        self.told(hall, puts=((), ((n("a"), 9),)))

    def test_no_bound(self):
        hall = self.hall(("cap", 0, ((n("a"), "*"),)), ("put", 0, n("a"), TWENTY))
        self.told(hall, puts=(((n("a"), TWENTY),), ()))


class Does(Checked):
    def test_done_on_the_hands_standing(self):
        hall = self.hall(("put", 1, n("a"), 3), ("do", 1, CASE), ("do", 0, (0, ("b", "b"))))
        self.told(hall, (((n("b"), 1),), ((n("a"), 3), (n("b"), 4))), (), ((), ((n("a"), 3),)))
        self.told(deed_done(GIVEN, hall, ("do", 0, (1, ()))), hall[0])

    def test_refused(self):
        hall = self.hall()
        for case in OTHER_THINGS + ((0, ()), (0, ("a",)), (0, ("a", "b", "a")), (0, ["a", "b"]), [0, ("a", "b")], (0, ("a", "c")), (2, ()),
                                    (True, ()), (False, ("a", "b")), (1, ("a",)), (-1, ()), (0, ("a", "A")), (1, None)):
            self.refused(hall, ("do", 0, case))
        for hand in (2, -1, True, False, None, "0", (), TWENTY):
            self.refused(hall, ("do", hand, CASE))
        self.refused(hall, ("do", 0))
        self.refused(hall, ["do", 0, CASE])
        self.refused(hall, ("done", 0, CASE))


class Letters(Checked):
    def test_send(self):
        hall = self.hall(("put", 0, n("a"), 3), ("send", 0, n("a")), ("send", 0, n("b")), ("send", 1, n("a")), ("put", 0, n("a"), 5),
                         ("send", 0, n("a")), ("send", 1, ("low", "a")))
        self.told(hall, letters=(("rise", n("a"), 3), ("rise", n("b"), 0), ("rise", n("a"), 0), ("rise", n("a"), 5),
                                 ("rise", ("low", "a"), None)))

    def test_send_refused(self):
        hall = self.hall(many=1)
        for thing in OTHER_THINGS + (n("A"), n(), n("a", "b"), n("c"), ["n", "a"], ("x", "a")):
            self.refused(hall, ("send", 0, thing))
        for hand in (1, -1, True, False, None):
            self.refused(hall, ("send", hand, n("a")))
        self.refused(hall, ("send", 0))

    def test_come(self):
        hall = self.hall(("put", 0, n("a"), 3), ("send", 0, n("a")), ("put", 0, n("a"), 5), ("send", 0, n("a")), many=3)
        one = deed_done(GIVEN, hall, ("come", 1, 0))
        self.told(one, (((n("a"), 5),), ((n("a"), 3),), ()), hall[1], hall[2], hall[3])
        # Letters stay, and may come again, to any hand, in whatever order.
        told = set()
        for order in itertools.product((0, 1), repeat=4):
            last = hall
            for number in order:
                last = deed_done(GIVEN, last, ("come", 2, number))
            self.told(last, letters=hall[1], puts=hall[2], caps=hall[3])
            if set(order) == {0, 1}:
                told.add(last[0])
        self.assertEqual(told, {(((n("a"), 5),), (), ((n("a"), 5),))})
        self.told(deed_done(GIVEN, hall, ("come", 0, 0)), hall[0])

    def test_come_refused(self):
        hall = self.hall(("send", 0, n("a")), ("send", 0, n("b")))
        for number in (2, 3, TWENTY, -1, -2, True, False, None, "0", (0,), [0], ()):
            self.refused(hall, ("come", 0, number))
        for hand in (2, -1, True, False, None):
            self.refused(hall, ("come", hand, 0))
        self.refused(self.hall(), ("come", 0, 0))
        self.refused(hall, ("come", 0))
        self.refused(hall, ("come", 0, 0, 0))


class Caps(Checked):
    ROOF = ((n("a"), 4), (n("b"), "*"))

    def test_the_own_cap(self):
        hall = self.hall(("cap", 1, self.ROOF), many=3)
        self.told(hall, ((), (), ()), (), ((), (), ()), ((None,) * 3, (None, self.ROOF, None), (None,) * 3))
        for roof in (self.ROOF, ((n("a"), 3), (n("b"), "*")), ((n("a"), 4), (n("b"), 99)), ((n("a"), 4),), ((n("b"), "*"),), ()):
            self.told(deed_done(GIVEN, hall, ("cap", 1, roof)), caps=((None,) * 3, (None, roof, None), (None,) * 3))
        for roof in (((n("a"), 5), (n("b"), "*")), ((n("a"), "*"),), ((C, "done"),), ((C, "done"), (n("a"), 4)), widest(GROUND)):
            self.refused(hall, ("cap", 1, roof))
            # Another hand has none yet.
            deed_done(GIVEN, hall, ("cap", 0, roof))

    def test_puts_lie_under_it(self):
        hall = self.hall(("put", 0, n("a"), 4), ("do", 0, CASE))
        for roof in (((n("a"), 4),), ((n("a"), "*"),), ((C, "done"), (n("a"), 5))):
            self.told(deed_done(GIVEN, hall, ("cap", 0, roof)), caps=((roof, None), (None, None)))
        for roof in ((), ((n("a"), 3),), ((n("b"), "*"),)):
            self.refused(hall, ("cap", 0, roof))
            deed_done(GIVEN, hall, ("cap", 1, roof))

    def test_cap_refused(self):
        hall = self.hall()
        for roof in (None, [], [(n("a"), 1)], ((n("a"), 0),), ((n("A"), 1),), ((n("b"), 1), (n("a"), 1)), ((n("a"), 1), (n("a"), 1)),
                     ((n("a"), True),), ((n("a"), "done"),), ((n("a"),),), (n("a"), 1), "*", 0, True, ((n("c"), "*"),), ([n("a"), 1],)):
            self.refused(hall, ("cap", 0, roof))
        for hand in (2, -1, True, False, None):
            self.refused(hall, ("cap", hand, ()))
        self.refused(hall, ("cap", 0))
        self.refused(hall, ("cap", 0, (), ()))

    def test_tell_and_come(self):
        hall = self.hall(("cap", 0, self.ROOF), ("tell", 0, 0), many=3)
        self.told(hall, letters=(("cap", 0, self.ROOF),))
        hall = deed_done(GIVEN, hall, ("come", 1, 0))
        self.told(hall, ((), (), ()), (("cap", 0, self.ROOF),), ((), (), ()),
                  ((self.ROOF, None, None), (self.ROOF, None, None), (None, None, None)))
        # What is known of another hand is told on.
        hall = deed_done(GIVEN, deed_done(GIVEN, hall, ("tell", 1, 0)), ("come", 2, 1))
        self.assertTrue(same(hall[1][1], ("cap", 0, self.ROOF)))
        self.assertTrue(same(caps_known(hall, 2), (self.ROOF, None, None)))

    def test_lowered_caps_in_whatever_order(self):
        lower, side = ((n("a"), 2), (n("b"), 7)), ((n("a"), 1), (n("b"), 7))
        hall = self.hall(("cap", 0, self.ROOF), ("tell", 0, 0), ("cap", 0, lower), ("tell", 0, 0), ("cap", 0, side), ("tell", 0, 0))
        self.assertEqual([letter[2] for letter in hall[1]], [self.ROOF, lower, side])
        for order in itertools.product((0, 1, 2), repeat=3):
            last = hall
            for number in order:
                last = deed_done(GIVEN, last, ("come", 1, number))
            self.assertTrue(same(caps_known(last, 1), ((self.ROOF, lower, side)[max(order)], None)))
            self.assertTrue(same(caps_known(last, 0), (side, None)))
        # The own one, come back, changes nothing.
        self.assertTrue(same(deed_done(GIVEN, hall, ("come", 0, 0)), hall))
        self.assertTrue(same(deed_done(GIVEN, hall, ("come", 0, 2)), hall))

    def test_a_cap_that_lies_under_none_known(self):
        # An older cap that comes late is above what is known, so it is left.
        hall = self.hall(("cap", 0, self.ROOF), ("tell", 0, 0), ("cap", 0, ()), ("tell", 0, 0), ("come", 1, 1))
        self.assertTrue(same(deed_done(GIVEN, hall, ("come", 1, 0)), hall))
        self.assertTrue(same(caps_known(hall, 1), ((), None)))

    def test_tell_refused(self):
        hall = self.hall(("cap", 0, ()))
        self.told(deed_done(GIVEN, hall, ("tell", 0, 0)), letters=(("cap", 0, ()),))
        for hand, other in ((0, 1), (1, 0), (1, 1), (0, 2), (2, 0), (0, -1), (-1, 0), (0, True), (True, 0), (0, False), (False, 0),
                            (0, None), (None, 0), (0, ()), (0, "0"), (0, TWENTY)):
            self.refused(hall, ("tell", hand, other))
        self.refused(hall, ("tell", 0))
        self.refused(hall, ("tell", 0, 0, 0))

    def test_a_hands_own_caps_stay_apart_from_what_it_knows(self):
        one, other = ((n("a"), 1),), ((n("b"), 2),)
        hall = self.hall(("cap", 0, one), ("cap", 1, other), ("tell", 1, 1), ("come", 0, 0))
        self.told(hall, caps=((one, other), (None, other)))
        self.told(deed_done(GIVEN, hall, ("tell", 0, 1)), letters=(("cap", 1, other), ("cap", 1, other)))


class AnyThing(Checked):
    def test_refused(self):
        hall = self.hall(("put", 0, n("a"), 1), ("send", 0, n("a")), ("cap", 0, ((n("a"), 1),)))
        for deed in OTHER_THINGS + (("put",), ("rise", n("a"), 3), ("end", 0, 0), (None, 0, 0), (True, 0, 0), (("do",), 0, CASE),
                                    (["do"], 0, CASE), ("come", [0], 0), samples.nested("put", 29), tuple([0] * 9000), ("put", 0, 0, 0)):
            self.refused(hall, deed)

    def test_words_too_many_or_lacking(self):
        hall = self.hall(("put", 0, n("a"), 1), ("send", 0, n("a")), ("cap", 0, ((n("a"), 1),)))
        for deed in (("put", 0, n("a"), 1), ("do", 0, CASE), ("send", 0, n("a")), ("come", 0, 0), ("cap", 0, ((n("a"), 1),)), ("tell", 0, 0)):
            deed_done(GIVEN, hall, deed)
            self.refused(hall, deed[:-1])
            self.refused(hall, list(deed))
            for more in ((0,), (0, 0), (0, 0, 0)):
                self.refused(hall, deed + more)

    def test_what_is_refused_changes_nothing(self):
        hall = self.hall(("put", 0, n("a"), 1))
        kept = self.hall(("put", 0, n("a"), 1))
        self.refused(hall, ("come", 0, 0))
        self.assertTrue(same(hall, kept))
        self.assertTrue(same(deed_done(GIVEN, hall, ("do", 0, CASE))[0], (((n("a"), 1), (n("b"), 2)), ())))
        self.assertTrue(same(hall, kept))


class Runs(Checked):
    DEEDS = (("put", 0, n("a"), 1), ("send", 0, n("a")), ("come", 1, 0), ("do", 1, CASE))

    def test_lists_and_tuples(self):
        told = run(GIVEN, 2, self.DEEDS)
        deeds = list(self.DEEDS)
        self.assertTrue(same(run(GIVEN, 2, deeds), told))
        self.assertEqual(deeds, list(self.DEEDS))
        self.told(told, (((n("a"), 1),), ((n("a"), 1), (n("b"), 2))), (("rise", n("a"), 1),), (((n("a"), 1),), ()))

    def test_the_place_of_the_first_that_is_refused(self):
        for place in range(5):
            for wrong in (None, ("come", 0, 9), ("tell", 0, 0), ["put"], ("do", 2, CASE)):
                deeds = self.DEEDS[:place] + (wrong,) + self.DEEDS[place:] + (None,)
                for kind in (tuple, list):
                    self.assertEqual(refusal(run, GIVEN, 2, kind(deeds)), (NoDeed, (place,)))

    def test_where_its_turn_comes(self):
        self.assertEqual(refusal(run, GIVEN, 2, (self.DEEDS[2],) + self.DEEDS), (NoDeed, (0,)))
        self.assertEqual(refusal(run, GIVEN, 1, self.DEEDS), (NoDeed, (2,)))
        self.assertEqual(refusal(run, GIVEN, 1, (("cap", 0, ()), ("put", 0, C, "raw"), ("put", 0, C, "done"))), (NoDeed, (2,)))

    def test_four_hundred_deeds(self):
        deeds = [("put", 3, n("a"), k) for k in range(200)] + [("send", 3, n("a")), ("come", 0, 0)] * 99 + [("come", 1, 98), ("come", 1, 99)]
        self.assertEqual(refusal(run, GIVEN, 4, deeds), (NoDeed, (399,)))
        hall = run(GIVEN, 4, deeds[:399])
        self.assertEqual(hall[0], (((n("a"), 199),), ((n("a"), 199),), (), ((n("a"), 199),)))


class PutIn(Checked):
    def test_the_join_of_all_puts(self):
        self.assertTrue(same(put_in(GIVEN, self.hall()), ()))
        hall = self.hall(("put", 0, n("b"), 3), ("put", 2, n("b"), 1), ("put", 1, S, ("b",)), ("put", 2, S, ("c",)), ("do", 0, CASE),
                         ("put", 2, C, "done"), many=3)
        self.assertTrue(same(put_in(GIVEN, hall), ((C, "done"), (n("b"), 3), (S, ("c", "b")))))

    def test_standings(self):
        hall = self.hall(("put", 0, n("b"), 3), ("do", 1, CASE))
        self.assertTrue(same(standing_of(hall, 0), ((n("b"), 3),)))
        self.assertTrue(same(standing_of(hall, 1), ((n("b"), 1),)))

    def test_no_hand_is_ever_above_the_end(self):
        given = program(ask(n("A"), 2, put((n("B"), ("of", n("A")))), NOTHING), ask(n("b"), 2, put(just(C, "done")), NOTHING), heads=HEADS)
        hall = first_hall(given, 2)
        end = least_closed(given, ((n("a"), 5),))
        deeds = [("put", 0, n("a"), 5)] + [("do", hand, case) for hand in (1, 0) for case in cases_of(given)]
        deeds += [("send", 0, thing) for thing in (C, n("b"))] + [("come", 1, 1), ("come", 1, 0)]
        for deed in deeds:
            hall = deed_done(given, hall, deed)
            self.assertTrue(all(is_over(GROUND, end, standing_of(hall, hand)) for hand in (0, 1)))
        self.assertEqual(standing_of(hall, 0), end)


if __name__ == "__main__":
    unittest.main()
