import copy
import random
import unittest

from onlyrise.doing import done, is_closed, value_of
from onlyrise.rising import rising
from onlyrise.roofing import bound_by, is_closed_roof, roof_done
from onlyrise.roofs import is_roof, is_under, raised, widest
from onlyrise.standings import is_over
from onlyrise.trees import cases_of
from tests.rules import (GROUND, L, M, NOTHING, X, Y, Z, ask, just, n, program, put, small, some_program, some_roof, some_standing,
                         some_term)
from tests.samples import CHAIN, LOW, NUM, SET, TWENTY, same

C, S = ("c",), ("s",)


def low(*words):
    return ("low",) + words


class BoundBy(unittest.TestCase):
    def bound(self, bounds, term, told):
        kept = dict(bounds)
        self.assertTrue(same(bound_by(GROUND, bounds, term), told), (bounds, term, bound_by(GROUND, bounds, term)))
        self.assertEqual(bounds, kept)

    def test_just(self):
        for height in (4, 0, None, "done", ("c", "b"), TWENTY):
            self.bound({}, ("just", height), height)
            self.bound({n("a"): "*", S: "*"}, ("just", height), height)

    def test_of(self):
        for thing, bound in ((n("a"), 3), (n("a"), "*"), (low("a"), 3), (low("a"), "*"), (C, "done"), (C, "*"), (S, ("a",)), (S, "*"),
                             (("w", "a", "b"), "top"), (("w", "a", "b"), "*")):
            self.bound({thing: bound}, ("of", thing), bound)
        for thing, least in ((n("a"), 0), (low("a"), None), (C, "raw"), (S, ()), (("w", "a", "b"), "root")):
            self.bound({}, ("of", thing), least)
            self.bound({n("b"): "*"}, ("of", thing), least)

    def test_plus(self):
        self.bound({n("a"): 3}, ("plus", n("a"), 4), 7)
        self.bound({n("a"): "*"}, ("plus", n("a"), 4), "*")
        self.bound({n("a"): "*"}, ("plus", n("a"), 0), "*")
        self.bound({}, ("plus", n("a"), 4), 4)
        self.bound({low("a"): 3}, ("plus", low("a"), 4), 7)
        self.bound({low("a"): "*"}, ("plus", low("a"), 4), "*")
        self.bound({}, ("plus", low("a"), 4), None)
        self.bound({low("a"): None}, ("plus", low("a"), 0), None)

    def test_sum(self):
        one, other = n("a"), n("b")
        self.bound({one: 3, other: 4}, ("sum", one, other), 7)
        self.bound({one: 3}, ("sum", one, one), 6)
        self.bound({one: 3}, ("sum", one, other), 3)
        for bounds in ({one: "*"}, {one: "*", other: 4}, {one: "*", other: "*"}):
            self.bound(bounds, ("sum", one, other), "*")
            self.bound(bounds, ("sum", other, one), "*")
        self.bound({one: "*"}, ("sum", one, one), "*")
        one, other = low("a"), low("b")
        self.bound({one: 3, other: 4}, ("sum", one, other), 7)
        self.bound({one: "*", other: 4}, ("sum", one, other), "*")
        self.bound({one: "*", other: 4}, ("sum", other, one), "*")
        self.bound({one: "*", other: "*"}, ("sum", one, other), "*")
        # None goes ahead of "*", on either side.
        for bounds in ({one: "*"}, {one: "*", other: None}, {one: 3}, {}):
            self.bound(bounds, ("sum", one, other), None)
            self.bound(bounds, ("sum", other, one), None)

    def test_meet(self):
        for one, other, height, lower in ((n("a"), n("b"), 5, 3), (low("a"), low("b"), 2, 6)):
            self.bound({one: height, other: lower}, ("meet", one, other), lower)
            self.bound({one: height, other: lower}, ("meet", other, one), lower)
            self.bound({one: "*", other: lower}, ("meet", one, other), lower)
            self.bound({one: "*", other: lower}, ("meet", other, one), lower)
            self.bound({one: "*", other: "*"}, ("meet", one, other), "*")
        self.bound({n("a"): "*"}, ("meet", n("a"), n("b")), 0)
        self.bound({n("a"): "*"}, ("meet", n("b"), n("a")), 0)
        self.bound({n("a"): "*"}, ("meet", n("a"), n("a")), "*")
        self.bound({low("a"): "*"}, ("meet", low("a"), low("b")), None)
        self.bound({low("a"): "*"}, ("meet", low("b"), low("a")), None)
        self.bound({C: "*"}, ("meet", C, C), "*")
        self.bound({C: "done"}, ("meet", C, C), "done")
        self.bound({S: "*"}, ("meet", S, S), "*")
        ground = (("a", "b"), (("s", 1, SET), ("c", 1, CHAIN)))
        one, other = ("s", "a"), ("s", "b")
        for bounds, told in (({one: ("c", "a"), other: ("a", "b")}, ("a",)), ({one: "*", other: ("a", "b")}, ("a", "b")), ({one: "*"}, ()),
                             ({other: ("a", "b")}, ())):
            self.assertTrue(same(bound_by(ground, bounds, ("meet", one, other)), told))
            self.assertTrue(same(bound_by(ground, bounds, ("meet", other, one)), told))

    def test_things_as_they_are_written(self):
        self.bound({n("A"): 3, n("a"): "*"}, ("plus", n("A"), 1), 4)
        self.bound({n("A"): "*", n("a"): 3}, ("sum", n("a"), n("A")), "*")

    def test_of_heights_alone_as_on_standings(self):
        chance = random.Random(45)
        for number in range(500):
            standing = some_standing(chance, GROUND, 6)
            order = chance.choice((NUM, LOW, CHAIN, SET))
            term = some_term(chance, GROUND, order, ())
            self.assertTrue(same(bound_by(GROUND, dict(standing), term), value_of(GROUND, dict(standing), term)))


class RoofDone(unittest.TestCase):
    def done(self, given, roof, told, case=(0, ())):
        kept = copy.deepcopy((given, roof))
        self.assertTrue(same(roof_done(given, roof, case), told), roof_done(given, roof, case))
        self.assertTrue(same((given, roof), kept))

    def test_the_leaf(self):
        given = small(ask(X, 3, put(just(Y, 1)), put(just(Z, 1))))
        self.done(given, (), ((Z, 1),))
        self.done(given, ((X, 2),), ((X, 2), (Z, 1)))
        for bound in (3, 4, "*"):
            self.done(given, ((X, bound),), ((X, bound), (Y, 1)))
        given = small(ask(L, 3, put(just(Y, 1)), put(just(Z, 1))))
        self.done(given, ((L, 4),), ((L, 4), (Z, 1)))
        for bound in (3, 0, "*"):
            self.done(given, ((L, bound),), ((L, bound), (Y, 1)))
        given = program(ask(S, ("a", "b"), put(just(C, "done")), NOTHING))
        self.done(given, ((S, ("a",)),), ((S, ("a",)),))
        self.done(given, ((S, ("a", "b")),), ((C, "done"), (S, ("a", "b"))))
        self.done(given, ((S, "*"),), ((C, "done"), (S, "*")))

    def test_named_things(self):
        given = program(ask(n("A"), 1, put((n("B"), ("of", n("A")))), NOTHING))
        self.done(given, ((n("a"), "*"),), ((n("a"), "*"), (n("b"), "*")), (0, ("a", "b")))
        self.done(given, ((n("a"), "*"),), ((n("a"), "*"),), (0, ("b", "a")))
        self.done(given, ((n("a"), 4), (n("b"), "*")), ((n("a"), "*"), (n("b"), "*")), (0, ("b", "a")))

    def test_values_are_of_the_roof_ahead(self):
        given = small(put((X, ("plus", Y, 1)), (Y, ("plus", X, 1)), (Z, ("sum", X, Y))))
        self.done(given, ((X, 4), (Y, 7)), ((X, 8), (Y, 7), (Z, 11)))
        self.done(given, ((X, 4), (Y, "*")), ((X, "*"), (Y, "*"), (Z, "*")))
        self.done(given, ((X, "*"),), ((X, "*"), (Y, "*"), (Z, "*")))

    def test_joined_to_no_bound(self):
        given = small(put(just(X, 5), (L, ("of", M))))
        self.done(given, ((X, "*"),), ((X, "*"),))
        self.done(given, ((L, 3), (M, "*"), (X, "*")), ((L, "*"), (M, "*"), (X, "*")))
        self.done(given, ((L, "*"), (M, 3)), ((L, "*"), (M, 3), (X, 5)))

    def test_one_thing_twice(self):
        given = small(put((X, ("of", Y)), (X, ("of", Z)), just(X, 2)))
        self.done(given, ((Y, 3), (Z, 5)), ((X, 5), (Y, 3), (Z, 5)))
        self.done(given, ((Y, "*"), (Z, 5)), ((X, "*"), (Y, "*"), (Z, 5)))
        self.done(given, ((Y, 3), (Z, "*")), ((X, "*"), (Y, 3), (Z, "*")))
        self.done(given, (), ((X, 2),))
        self.done(program(put(just(S, ("a",)), just(S, ("c",)))), (), ((S, ("c", "a")),))

    def test_none_of_low(self):
        given = small(put((L, ("sum", M, L)), (M, ("plus", M, 3))))
        self.done(given, ((L, "*"),), ((L, "*"),))
        self.done(given, ((M, "*"),), ((M, "*"),))
        self.done(given, ((L, 9), (M, "*")), ((L, "*"), (M, "*")))

    def test_standings_are_roofs(self):
        chance = random.Random(46)
        for number in range(200):
            given = some_program(chance)
            standing = some_standing(chance, given[:2], 5)
            for case in cases_of(given):
                self.assertTrue(same(roof_done(given, standing, case), done(given, standing, case)))
            self.assertIs(is_closed_roof(given, standing), is_closed(given, standing))


class IsClosedRoof(unittest.TestCase):
    def closed(self, given, roof, told):
        self.assertIs(is_closed_roof(given, roof), told, roof)

    def test_closed(self):
        given = small(ask(X, 3, put((Y, ("plus", X, 1))), NOTHING), ask(Y, 9, put(just(Z, 1)), NOTHING))
        for roof, told in (((), True), (((X, 2),), True), (((X, 3),), False), (((X, 3), (Y, 4)), True), (((X, 3), (Y, 3)), False),
                           (((X, "*"),), False), (((X, "*"), (Y, TWENTY)), False), (((X, "*"), (Y, "*")), False),
                           (((X, "*"), (Y, "*"), (Z, 1)), True), (((Y, "*"),), False), (((Y, "*"), (Z, "*")), True)):
            self.closed(given, roof, told)

    def test_no_rules_and_the_widest(self):
        self.closed(small(), ((X, 3), (Y, "*")), True)
        chance = random.Random(47)
        for number in range(100):
            given = some_program(chance)
            self.closed(given, widest(given[:2]), True)

    def test_endless_programs_have_closed_roofs(self):
        given = small(put((X, ("plus", X, 1))))
        self.closed(given, ((X, TWENTY),), False)
        self.closed(given, ((X, "*"),), True)

    def test_any_case_counts(self):
        given = program(ask(n("A"), 3, put((n("B"), ("of", n("A")))), NOTHING))
        self.closed(given, ((n("b"), "*"),), False)
        self.closed(given, ((n("a"), "*"),), False)
        self.closed(given, ((n("a"), "*"), (n("b"), "*")), True)


class InAProgramThatRises(unittest.TestCase):
    def test_what_is_under_a_roof_stays_under_it(self):
        chance = random.Random(48)
        seen = 0
        for number in range(600):
            given = some_program(chance)
            if rising(given)[0] != "rises":
                continue
            ground = given[:2]
            for turn in range(6):
                standing = some_standing(chance, ground, 5)
                roof = standing
                for thing, bound in some_roof(chance, ground, 4):
                    roof = raised(ground, roof, thing, bound)
                for case in cases_of(given):
                    behind, above = done(given, standing, case), roof_done(given, roof, case)
                    self.assertIs(is_roof(ground, above), True)
                    self.assertIs(is_under(ground, roof, above), True)
                    self.assertIs(is_under(ground, behind, above), True, (given, standing, roof, case))
                    self.assertIs(is_over(ground, behind, standing), True)
                    seen += roof != standing and behind != standing
        self.assertGreater(seen, 300)


if __name__ == "__main__":
    unittest.main()
