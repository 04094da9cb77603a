import itertools
import unittest

from onlyrise.doing import done, is_closed, leaf_at, value_of, walked
from onlyrise.heights import at_least
from onlyrise.standings import height_in, is_over, is_standing
from onlyrise.things import order_of
from onlyrise.trees import cases_of, leaves_of, named
from tests import samples
from tests.rules import GROUND, L, M, NOTHING, X, Y, Z, ask, just, n, program, put, small
from tests.samples import same

C, S = ("c",), ("s",)


def low(*words):
    return ("low",) + words


def pairs_told(pairs):
    """The standing of these pairs, whatever their order."""
    return tuple(sorted(pairs))


class LeafAt(unittest.TestCase):
    def test_no_asking(self):
        self.assertTrue(same(leaf_at(program(NOTHING), (), (0, ())), 0))

    def test_just_as_high_higher_and_lower(self):
        for thing, asked, yes, no in ((n("a"), 3, (3, 4, samples.TWENTY), (1, 2)), (low("a"), 3, (3, 2, 0), (4, 9)),
                                      (C, "done", ("done", "checked"), ()), (S, ("a", "b"), (("a", "b"), ("c", "a", "b")),
                                      (("a",), ("b",), ("c", "a"))), (("w", "a", "a"), "left", ("left", "top"), ("right",))):
            given = program(ask(thing, asked, NOTHING, NOTHING))
            for height in yes:
                self.assertTrue(same(leaf_at(given, ((thing, height),), (0, ())), 0), (thing, height))
            for height in no:
                self.assertTrue(same(leaf_at(given, ((thing, height),), (0, ())), 1), (thing, height))
            self.assertTrue(same(leaf_at(given, (), (0, ())), 1), thing)

    def test_the_thing_is_named(self):
        given = program(NOTHING, ask(("w", "B", "A"), "top", NOTHING, NOTHING))
        standing = ((("w", "a", "b"), "top"),)
        told = {case: leaf_at(given, standing, case) for case in cases_of(given)}
        self.assertEqual(told, {(0, ()): 0, (1, ("a", "a")): 1, (1, ("a", "b")): 1, (1, ("b", "a")): 0, (1, ("b", "b")): 1})

    def test_by_the_paths_of_the_leaves(self):
        self.by_paths(ask(n("A"), 2, ask(low("a"), 1, ask(C, "done", NOTHING, NOTHING), ask(n("B"), 1, NOTHING, NOTHING)),
                          ask(n("B"), 1, ask(n("A"), 1, NOTHING, NOTHING), ask(low("A"), 2, NOTHING, NOTHING))))
        self.by_paths(ask(n("A"), 2, ask(low("a"), 1, ask(C, "done", NOTHING, NOTHING), NOTHING), NOTHING))
        self.by_paths(ask(n("A"), 2, NOTHING, ask(low("a"), 1, NOTHING, ask(C, "done", NOTHING, NOTHING))))
        self.by_paths(ask(n("A"), 1, ask(low("a"), 1, ask(C, "done", NOTHING, NOTHING), NOTHING), ask(n("B"), 1, NOTHING, NOTHING)))

    def by_paths(self, rule):
        given = program(rule)
        reached = set()
        for a, b, c, d in itertools.product((0, 1, 2), (0, 1, 2), (None, 2, 1), ("raw", "done")):
            pairs = ((C, d), (low("a"), c), (n("a"), a), (n("b"), b))
            standing = tuple(pair for pair in pairs if pair[1] not in (0, None, "raw"))
            for case in cases_of(given):
                fitting = []
                for number, (path, puts) in enumerate(leaves_of(rule)):
                    things = [named(rule, case, thing) for thing, height, truth in path]
                    if all(at_least(order_of(GROUND, thing), height_in(GROUND, standing, thing), step[1]) is step[2]
                           for thing, step in zip(things, path)):
                        fitting.append(number)
                self.assertTrue(same([leaf_at(given, standing, case)], fitting))
                reached.update(fitting)
        self.assertEqual(reached, set(range(len(leaves_of(rule)))))


class ValueOf(unittest.TestCase):
    def value(self, heights, term, told):
        kept = dict(heights)
        self.assertTrue(same(value_of(GROUND, heights, term), told), (heights, term))
        self.assertEqual(heights, kept)

    def test_just(self):
        self.value({}, ("just", 4), 4)
        self.value({n("a"): 9}, ("just", 0), 0)
        self.value({}, ("just", None), None)
        self.value({}, ("just", ("c", "a")), ("c", "a"))
        self.value({}, ("just", "top"), "top")

    def test_of(self):
        self.value({n("a"): 4, n("b"): 5}, ("of", n("a")), 4)
        self.value({n("A"): 7, n("a"): 4}, ("of", n("A")), 7)
        self.value({n("a"): 4}, ("of", n("A")), 0)
        self.value({low("a"): 0}, ("of", low("a")), 0)
        self.value({}, ("of", low("a")), None)
        self.value({}, ("of", C), "raw")
        self.value({}, ("of", S), ())
        self.value({S: ("b",)}, ("of", S), ("b",))
        self.value({}, ("of", ("w", "A", "b")), "root")
        self.value({("w", "A", "b"): "left"}, ("of", ("w", "A", "b")), "left")

    def test_plus(self):
        self.value({n("a"): 4}, ("plus", n("a"), 3), 7)
        self.value({n("a"): 4}, ("plus", n("a"), 0), 4)
        self.value({}, ("plus", n("B"), 1000), 1000)
        self.value({n("a"): samples.TWENTY}, ("plus", n("a"), 1), samples.TWENTY + 1)
        self.value({low("b"): 4}, ("plus", low("b"), 3), 7)
        self.value({low("b"): 0}, ("plus", low("b"), 0), 0)
        self.value({}, ("plus", low("b"), 3), None)
        self.value({low("b"): None}, ("plus", low("b"), 0), None)

    def test_sum(self):
        self.value({n("a"): 4, n("B"): 3}, ("sum", n("a"), n("B")), 7)
        self.value({n("a"): 4}, ("sum", n("a"), n("B")), 4)
        self.value({n("a"): 4}, ("sum", n("a"), n("a")), 8)
        self.value({}, ("sum", n("a"), n("b")), 0)
        self.value({low("a"): 4, low("b"): 0}, ("sum", low("a"), low("b")), 4)
        self.value({low("a"): 4}, ("sum", low("a"), low("b")), None)
        self.value({low("a"): 4}, ("sum", low("b"), low("a")), None)
        self.value({}, ("sum", low("b"), low("a")), None)
        self.value({low("a"): 0}, ("sum", low("a"), low("a")), 0)

    def test_meet(self):
        self.value({n("a"): 4, n("b"): 3}, ("meet", n("a"), n("b")), 3)
        self.value({n("a"): 3, n("b"): 4}, ("meet", n("a"), n("b")), 3)
        self.value({n("a"): 3}, ("meet", n("a"), n("b")), 0)
        self.value({low("a"): 4, low("b"): 3}, ("meet", low("a"), low("b")), 4)
        self.value({low("a"): 3, low("b"): 4}, ("meet", low("a"), low("b")), 4)
        self.value({low("a"): 3}, ("meet", low("a"), low("b")), None)
        self.value({low("a"): 3}, ("meet", low("b"), low("a")), None)
        self.value({C: "done"}, ("meet", C, C), "done")
        self.value({S: ("c", "b")}, ("meet", S, S), ("c", "b"))
        ground = (("a",), (("p", 1, samples.CHAIN), ("q", 1, samples.SET)))
        heights = {("p", "a"): "checked", ("p", "A"): "done", ("q", "a"): ("c", "a"), ("q", "A"): ("a", "b")}
        self.assertEqual(value_of(ground, heights, ("meet", ("p", "a"), ("p", "A"))), "done")
        self.assertEqual(value_of(ground, heights, ("meet", ("p", "B"), ("p", "A"))), "raw")
        self.assertTrue(same(value_of(ground, heights, ("meet", ("q", "a"), ("q", "A"))), ("a",)))


class Done(unittest.TestCase):
    def done(self, given, standing, case, told):
        self.assertTrue(same(done(given, standing, case), told), (standing, case))

    def test_each_sort_of_term(self):
        standing = ((L, 5), (M, 2), (X, 3), (Y, 4))
        for thing, term, height in ((Z, ("just", 2), 2), (Z, ("of", X), 3), (Z, ("plus", X, 4), 7), (Z, ("sum", X, Y), 7),
                                    (Z, ("meet", X, Y), 3), (X, ("just", 3), 3), (X, ("of", Y), 4), (X, ("just", 2), 3),
                                    (M, ("of", L), 2), (L, ("of", M), 2), (L, ("plus", M, 2), 4), (L, ("plus", M, 9), 5),
                                    (L, ("sum", L, M), 5), (L, ("meet", L, M), 5), (M, ("just", 0), 0), (L, ("just", None), 5)):
            told = pairs_told([pair for pair in standing if pair[0] != thing] + [(thing, height)])
            self.done(small(put((thing, term))), standing, (0, ()), told)

    def test_low_that_none_reaches(self):
        self.done(small(put((L, ("plus", M, 1)))), (), (0, ()), ())
        self.done(small(put((L, ("sum", M, L)))), ((L, 3),), (0, ()), ((L, 3),))
        self.done(small(put((L, ("of", M)))), ((M, 0),), (0, ()), ((L, 0), (M, 0)))

    def test_least_heights_are_left_out(self):
        self.done(small(put(just(X, 0), just(L, None), (Y, ("of", Z)))), (), (0, ()), ())
        self.done(program(put(just(C, "raw"), just(S, ()), just(("w", "a", "a"), "root"))), (), (0, ()), ())

    def test_all_by_the_standing_ahead(self):
        given = small(put((X, ("plus", Y, 1)), (Y, ("plus", X, 1)), (Z, ("sum", X, Y))))
        self.done(given, (), (0, ()), ((X, 1), (Y, 1)))
        self.done(given, ((X, 1), (Y, 5)), (0, ()), ((X, 6), (Y, 5), (Z, 6)))

    def test_two_puts_of_one_thing(self):
        self.done(small(put(just(X, 5), (X, ("plus", X, 1)))), ((X, 1),), (0, ()), ((X, 5),))
        self.done(small(put((X, ("plus", X, 1)), just(X, 5))), ((X, 7),), (0, ()), ((X, 8),))
        given = program(put(just(S, ("a",)), just(S, ("b",))))
        self.done(given, ((S, ("c",)),), (0, ()), ((S, ("c", "a", "b")),))
        given = program(put(just(("w", "A", "b"), "left"), just(("w", "a", "B"), "right")))
        self.done(given, (), (0, ("a", "b")), ((("w", "a", "b"), "top"),))
        self.done(given, (), (0, ("b", "b")), ((("w", "a", "b"), "right"), (("w", "b", "b"), "left")))

    def test_the_leaf_that_is_come_to(self):
        given = program(NOTHING, ask(n("A"), 2, put((n("B"), ("plus", n("A"), 1))), put(just(n("A"), 1))))
        self.done(given, (), (0, ()), ())
        self.done(given, (), (1, ("a", "b")), ((n("a"), 1),))
        self.done(given, ((n("a"), 2),), (1, ("a", "b")), ((n("a"), 2), (n("b"), 3)))
        self.done(given, ((n("a"), 2),), (1, ("b", "a")), ((n("a"), 2), (n("b"), 1)))
        self.done(given, ((n("a"), 2),), (1, ("a", "a")), ((n("a"), 3),))

    def test_what_is_done_never_sinks(self):
        given = program(ask(n("A"), 2, put((low("B"), ("of", low("A"))), just(n("A"), 1)), put((n("B"), ("sum", n("A"), n("B"))))),
                        put(just(C, "done"), (S, ("of", S)), (("w", "A", "b"), ("of", ("w", "b", "A")))))
        for heights in itertools.product((None, 3), (0, 2), (0, 1), ("root", "left")):
            pairs = zip((low("a"), n("a"), n("b"), ("w", "b", "a")), heights)
            standing = tuple(pair for pair in pairs if pair[1] not in (None, 0, "root"))
            for case in cases_of(given):
                told = done(given, standing, case)
                self.assertIs(is_standing(GROUND, told), True)
                self.assertIs(is_over(GROUND, told, standing), True)


class Walked(unittest.TestCase):
    GIVEN = small(put((X, ("plus", X, 1))), put((Y, ("sum", X, X))), ask(Y, 4, put(just(Z, 1)), NOTHING))

    def test_one_behind_the_other(self):
        for kind in (tuple, list):
            for order, told in (((), ()), ((0,), ((X, 1),)), ((0, 0), ((X, 2),)), ((1, 0), ((X, 1),)), ((0, 1), ((X, 1), (Y, 2))),
                                ((0, 0, 1, 2), ((X, 2), (Y, 4), (Z, 1))), ((0, 0, 2, 1), ((X, 2), (Y, 4)))):
                cases = kind([(k, ()) for k in order])
                self.assertTrue(same(walked(self.GIVEN, (), cases), told))
                self.assertEqual(cases, kind([(k, ()) for k in order]))

    def test_from_a_standing_on(self):
        self.assertTrue(same(walked(self.GIVEN, ((L, 1), (X, 9)), [(1, ()), (2, ())]), ((L, 1), (X, 9), (Y, 18), (Z, 1))))

    def test_numbers_without_bound(self):
        told = walked(small(put((X, ("sum", X, X)))), ((X, 1),), [(0, ())] * 2000)
        self.assertTrue(same(told, ((X, 2 ** 2000),)))


class IsClosed(unittest.TestCase):
    def test_no_rules(self):
        self.assertIs(is_closed(small(), ()), True)
        self.assertIs(is_closed(small(), ((X, 1),)), True)

    def test_each_case_counts(self):
        given = program(NOTHING, put(just(n("A"), 2)))
        self.assertIs(is_closed(given, ()), False)
        self.assertIs(is_closed(given, ((n("a"), 2),)), False)
        self.assertIs(is_closed(given, ((n("b"), 2),)), False)
        self.assertIs(is_closed(given, ((n("a"), 2), (n("b"), 1))), False)
        self.assertIs(is_closed(given, ((n("a"), 2), (n("b"), 2))), True)
        self.assertIs(is_closed(given, ((n("a"), 7), (n("b"), 2))), True)

    def test_growing_is_never_closed(self):
        given = small(put((X, ("plus", Y, 1))), ask(X, 5, put((Y, ("of", X))), NOTHING))
        self.assertIs(is_closed(given, ((X, 4), (Y, 3))), True)
        self.assertIs(is_closed(given, ((X, 5), (Y, 4))), False)
        self.assertIs(is_closed(given, ((X, 5), (Y, 5))), False)


if __name__ == "__main__":
    unittest.main()
