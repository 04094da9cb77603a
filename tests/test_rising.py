import itertools
import unittest

from onlyrise.doing import done
from onlyrise.risechecker import lets_rising, pairs_of
from onlyrise.rising import falls, leasts, rising
from onlyrise.standings import is_over, is_standing
from onlyrise.trees import cases_of, leaves_of, right_program
from tests import samples
from tests.rules import L, NOTHING, X, Y, Z, ask, just, n, program, put, refusal, small
from tests.samples import same

S = ("s",)


def clashes_by_kind(rule, i, j):
    found = []
    for side, leaf in ((0, i), (1, j)):
        many = len([step for step in leaves_of(rule)[leaf][0] if not step[2]])
        found.extend(("clash", side, k) for k in range(many))
    return found


def reasons_by_kind(rule, i, j):
    places = [entry[1:] for entry in clashes_by_kind(rule, i, j)]
    likes = [("like", m) for m in range(len(leaves_of(rule)[j][1]))]
    one = [("under", (place,)) for place in places]
    two = [("under", (place, other)) for place in places for other in places]
    return [("just",), ("own",)] + likes + one + two


def has_entry(given, i, j):
    """By all entries that there could be, each looked at by the checker, of a program with one rule of two leaves."""
    rule = given[2][0]
    ahead = [("clash", 1, 0)] if (i, j) == (1, 0) else []

    def let(entry):
        told = refusal(lets_rising, given, (tuple((ahead + [entry, None])[:2]),))
        return told == (None, True) or told[1] == ("entry", len(ahead) + 1)

    if any(let(entry) for entry in clashes_by_kind(rule, i, j)):
        return True
    choices = itertools.product(reasons_by_kind(rule, i, j), repeat=len(leaves_of(rule)[i][1]))
    return any(let(("covers", reasons)) for reasons in choices)


class Leasts(unittest.TestCase):
    def leasts(self, given, case, i, j, low, high):
        told = leasts(given, case, i, j)
        self.assertTrue(same(told, (low, high)), (case, i, j, told))

    def test_of_i_and_of_both(self):
        given = small(NOTHING, ask(Y, 2, ask(L, 3, NOTHING, ask(X, 1, NOTHING, NOTHING)), NOTHING))
        case = (1, ())
        self.leasts(given, case, 0, 1, ((L, 3), (Y, 2)), ((L, 3), (X, 1), (Y, 2)))
        self.leasts(given, case, 1, 0, ((X, 1), (Y, 2)), ((L, 3), (X, 1), (Y, 2)))
        self.leasts(given, case, 3, 0, (), ((L, 3), (Y, 2)))
        self.leasts(given, case, 0, 3, ((L, 3), (Y, 2)), ((L, 3), (Y, 2)))
        self.leasts(given, case, 3, 2, (), ((Y, 2),))

    def test_things_with_the_cases_names(self):
        given = program(ask(n("A"), 2, ask(n("B"), 5, NOTHING, NOTHING), ask(n("a"), 1, NOTHING, NOTHING)))
        self.leasts(given, (0, ("a", "b")), 0, 2, ((n("a"), 2), (n("b"), 5)), ((n("a"), 2), (n("b"), 5)))
        self.leasts(given, (0, ("a", "b")), 2, 0, ((n("a"), 1),), ((n("a"), 2), (n("b"), 5)))
        self.leasts(given, (0, ("b", "a")), 2, 1, ((n("a"), 1),), ((n("a"), 1), (n("b"), 2)))
        # Two marks of one name are one thing, and its heights are joined.
        self.leasts(given, (0, ("b", "b")), 0, 1, ((n("b"), 5),), ((n("b"), 5),))
        self.leasts(given, (0, ("b", "b")), 1, 0, ((n("b"), 2),), ((n("b"), 5),))

    def test_heights_that_join_to_a_third(self):
        given = program(ask(S, ("a",), ask(S, ("b",), NOTHING, NOTHING), NOTHING))
        self.leasts(given, (0, ()), 0, 1, ((S, ("a", "b")),), ((S, ("a", "b")),))
        self.leasts(given, (0, ()), 1, 0, ((S, ("a",)),), ((S, ("a", "b")),))


class Falls(unittest.TestCase):
    GIVEN = small(NOTHING, ask(X, 2, NOTHING, put(just(Y, 3))))

    def test_falls(self):
        for low, high, told in (((), ((X, 2),), True), ((), ((X, 1),), False), (((X, 1),), ((X, 2),), True), (((X, 2),), ((X, 3),), False),
                                ((), ((X, 2), (Y, 3)), False), ((), ((X, 2), (Y, 2)), True), ((), (), False), (((Z, 1),), ((X, 2),), False),
                                (((X, 2),), (), False), (((Z, 1),), ((X, 2), (Z, 1)), True)):
            self.assertIs(falls(self.GIVEN, (1, ()), low, high), told, (low, high))
            self.assertIs(falls(self.GIVEN, (0, ()), low, high), False)

    def test_unlike_heights_fall_too(self):
        given = program(ask(n("A"), 1, put(just(S, ("a",))), put(just(S, ("b",)))))
        self.assertIs(falls(given, (0, ("a",)), (), ((n("a"), 1),)), True)
        self.assertIs(falls(given, (0, ("b",)), (), ((n("a"), 1),)), False)
        self.assertIs(falls(given, (0, ("a",)), (), ((n("a"), 1), (S, ("b",)))), False)


class Rising(unittest.TestCase):
    def rises(self, given):
        told = rising(given)
        self.assertEqual((type(told), len(told), told[0]), (tuple, 2, "rises"), given)
        self.assertIs(lets_rising(given, told[1]), True)

    def falling(self, given):
        told = rising(given)
        self.assertEqual((type(told), len(told), told[0]), (tuple, 4, "falls"), given)
        self.assertIn(told[1], cases_of(given))
        self.assertIs(is_standing(given[:2], told[2]), True)
        self.assertIs(is_standing(given[:2], told[3]), True)
        self.assertIs(falls(given, told[1], told[2], told[3]), True)

    def left_open(self, given, k, i, j):
        self.assertTrue(same(rising(given), ("open", k, i, j)), rising(given))

    def test_no_rules_and_no_askings(self):
        self.rises(small())
        self.rises(small(NOTHING))
        self.rises(small(put((X, ("plus", X, 1)), (Y, ("sum", X, Y)), (L, ("meet", L, L)))))
        self.rises(small(*[put(just(X, 1))] * 6))

    def test_askings(self):
        self.rises(small(ask(X, 1, put(just(Y, 1)), NOTHING)))
        self.rises(small(ask(X, 1, put(just(Y, 2)), put(just(Y, 2)))))
        self.rises(small(ask(X, 3, NOTHING, put((X, ("plus", X, 1)))), ask(Y, 1, put((X, ("of", Y))), NOTHING)))
        self.falling(small(ask(X, 1, put(just(Y, 1)), put(just(Y, 2)))))
        self.falling(small(NOTHING, ask(X, 1, NOTHING, put(just(Y, 2)))))
        self.falling(small(ask(X, 3, NOTHING, put((X, ("plus", X, 2)))), ask(X, 1, NOTHING, put(just(Y, 2)))))

    def test_each_reason_is_found(self):
        for no, yes, asked in ((just(Y, 3), just(Y, 4), (X, 1)), ((Y, ("plus", Z, 1)), (Y, ("plus", Z, 2)), (X, 1)),
                               ((L, ("plus", L, 4)), just(Y, 1), (X, 1)), ((Y, ("of", X)), just(Y, 4), (X, 5)),
                               ((Y, ("sum", X, X)), just(Y, 8), (X, 5)), ((Y, ("meet", X, X)), just(Y, 4), (X, 5))):
            self.rises(small(ask(asked[0], asked[1], put(just(Z, 0), yes), put(just(X, 0), no))))
            self.rises(small(ask(asked[0], asked[1], put(yes, just(Z, 0)), put(no, just(X, 0)))))
        # X is bounded by the second of two askings alone, or by one on either side.
        self.rises(small(ask(X, 9, put(just(Y, 8)), ask(X, 3, put(just(Y, 2)), put((Y, ("of", X)))))))
        self.rises(small(ask(X, 3, ask(Z, 5, put((Y, ("meet", X, Z))), put(just(Y, 2))), put((Y, ("meet", Z, X))))))
        self.rises(small(ask(X, 3, ask(Z, 5, put((Y, ("sum", X, Z))), put(just(Y, 6))), put((Y, ("sum", X, Z))))))

    def test_paths_that_can_not_be_walked(self):
        # The leaf behind X at least 3 and not at least 2 is never come to.
        self.rises(small(ask(X, 3, ask(X, 2, NOTHING, put(just(Y, 9))), NOTHING)))
        self.rises(small(ask(X, 3, ask(X, 2, put(just(Y, 9)), NOTHING), put(just(Y, 9)))))

    def test_open(self):
        # It rises, as Z is never less than what it was, but no reason tells so.
        given = small(ask(X, 1, put((Y, ("sum", Z, Z))), put((Y, ("of", Z)))))
        self.left_open(given, 0, 1, 0)
        self.left_open(small(NOTHING, *given[2]), 1, 1, 0)
        # The first pair without an entry, by rules, then pairs.
        twice = ask(X, 2, put((Y, ("sum", Z, Z))), ask(X, 1, put((Y, ("of", Z))), put((Y, ("of", Z)))))
        self.left_open(small(twice), 0, 1, 0)
        self.left_open(small(NOTHING, twice, *given[2]), 1, 1, 0)
        last = ask(X, 2, put((Y, ("sum", Z, Z))), ask(X, 1, put((Y, ("sum", Z, Z))), put((Y, ("of", Z)))))
        self.left_open(small(last), 0, 2, 0)
        self.left_open(small(last, twice), 0, 2, 0)

    def test_open_only_where_no_pair_falls(self):
        left = ask(X, 1, put((Y, ("sum", Z, Z))), put((Y, ("of", Z))))
        fall = ask(X, 1, NOTHING, put(just(Y, 2)))
        self.left_open(small(left), 0, 1, 0)
        self.falling(small(left, fall))
        self.falling(small(fall, left))
        self.left_open(small(left, left), 0, 1, 0)
        three = ask(X, 1, ask(Z, 1, put((Y, ("sum", Z, Z))), put((Y, ("sum", Z, Z)))), put((Y, ("of", Z))))
        # Leaf 2 has an of where both the others have a sum; by leaf 1, Z is less than 1, which is a bound.
        self.left_open(small(three), 0, 2, 0)

    def test_a_fall_by_one_case_alone(self):
        # Where A is a, the higher one of the least standings has what the lower one comes to.
        given = program(ask(n("a"), 1, NOTHING, put(just(n("A"), 1))))
        told = rising(given)
        self.falling(given)
        self.assertEqual(told[1], (0, ("b",)))

    def test_of_all_orders(self):
        for order in samples.ORDERS:
            heads = (("h", 0, order), ("k", 0, order))
            heights = [height for height in samples.some_heights(order, 2) if refusal(
                right_program, (("a",), heads, (ask(("h",), height, NOTHING, NOTHING),)))[0] is None]
            for height in heights[:6]:
                yes = put((("k",), ("of", ("h",))))
                self.rises((("a",), heads, (ask(("h",), height, yes, NOTHING), ask(("h",), height, yes, yes))))
                self.falling((("a",), heads, (ask(("h",), height, NOTHING, put(just(("k",), height))),)))

    def test_justs_without_marks_are_never_open(self):
        leaves = [put(*chosen) for chosen in ((), (just(Y, 1),), (just(X, 3),), (just(Y, 2), just(X, 1)), (just(L, 4),), (just(L, 2), just(Y, 1)))]
        seen = set()
        for one, two, three in itertools.product(leaves, repeat=3):
            for first, second in (((X, 1), (X, 2)), ((X, 2), (X, 1)), ((X, 1), (Y, 2)), ((L, 3), (X, 3))):
                given = small(ask(*first, ask(*second, one, two), three), ask(*first, one, ask(*second, two, three)))
                told = rising(given)
                seen.add(told[0])
                if told[0] == "rises":
                    self.rises(given)
                else:
                    self.falling(given)
        self.assertEqual(seen, {"rises", "falls"})


class AsLookedThrough(unittest.TestCase):
    """Of many rules of two leaves, each told as the checker tells by all entries that there could be."""

    PUTS = ((Y, ("just", 2)), (Y, ("of", X)), (Y, ("plus", X, 1)), (Y, ("sum", X, Y)), (Y, ("meet", X, Y)), (X, ("of", X)),
            (X, ("plus", X, 2)), (Y, ("just", 0)), (L, ("plus", L, 2)), (L, ("of", L)), (X, ("just", 1)), (Y, ("of", Z)))

    def standings(self):
        for x, y, l in itertools.product((0, 1, 2, 3), (0, 1, 2), (None, 1)):
            yield tuple(pair for pair in ((L, l), (X, x), (Y, y)) if pair[1])

    def test_two_leaves(self):
        leaves = [put(one) for one in self.PUTS] + [NOTHING, put(*self.PUTS[:2]), put(*self.PUTS[3:6])]
        standings = list(self.standings())
        order = small()[:2]
        below = [(one, other) for one in standings for other in standings if one != other and is_over(order, other, one)]
        seen = {}
        for yes, no in itertools.product(leaves, repeat=2):
            given = small(ask(X, 2, yes, no))
            told = rising(given)
            gaps = [pair for pair in ((0, 1), (1, 0)) if not has_entry(given, *pair)]
            seen[told[0]] = seen.get(told[0], 0) + 1
            if told[0] == "rises":
                self.assertEqual(gaps, [])
                self.assertIs(lets_rising(given, told[1]), True)
                reached = {standing: done(given, standing, (0, ())) for standing in standings}
                for one, other in below:
                    self.assertIs(is_over(order, reached[other], reached[one]), True, (given, one, other))
            else:
                self.assertNotEqual(gaps, [])
                fall = [pair for pair in gaps if falls(given, (0, ()), *leasts(given, (0, ()), *pair))]
                if told[0] == "falls":
                    self.assertIs(falls(given, *told[1:]), True)
                    self.assertNotEqual(fall, [])
                else:
                    self.assertEqual(fall, [])
                    self.assertTrue(same(told, ("open", 0) + gaps[0]))
        self.assertGreater(min(seen[word] for word in ("rises", "falls", "open")), 5)


if __name__ == "__main__":
    unittest.main()
