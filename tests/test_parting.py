import copy
import itertools
import random
import unittest

from onlyrise.doing import done, leaf_at
from onlyrise.errors import NoPaper
from onlyrise.halls import run, standing_of
from onlyrise.parting import parted, plain_pairs, verdict
from onlyrise.partchecker import lets_parting
from onlyrise.risechecker import lets_rising, pairs_of
from onlyrise.rising import falls, leasts, rising
from onlyrise.ended import finish, is_ended
from onlyrise.trees import cases_of
from tests.rules import L, NOTHING, X, Y, Z, ask, just, n, program, put, refusal, small, some_program
from tests.samples import same

C, S = ("c",), ("s",)
FALLING = ask(X, 1, NOTHING, put(just(Y, 2)))
# Of four names it has forty plain pairs: three by each two unlike ones, one by each alone.
IDLE = ask(n("A"), 1, ask(n("B"), 1, NOTHING, NOTHING), NOTHING)


def pairs_looked_through(given):
    found = []
    for case in cases_of(given):
        for i, j in pairs_of(given[2][case[0]]):
            low, high = leasts(given, case, i, j)
            if leaf_at(given, low, case) == i and leaf_at(given, high, case) == j:
                found.append((case, low, high))
    return found


def runs_of(given, pair):
    """The two runs of a plain pair, or None where one of them does not go on to an end."""
    case, low, high = pair
    puts = [("put", 0, thing, height) for thing, height in high]
    runs = []
    for deeds in (puts, [("put", 0, thing, height) for thing, height in low] + [("do", 0, case)] + puts):
        more = finish(given, run(given, 1, deeds))
        if more is None:
            return None
        runs.append((1, tuple(deeds) + more))
    return tuple(runs)


def parts(given, pair):
    runs = runs_of(given, pair)
    return runs is not None and refusal(lets_parting, given, *runs) == (None, True)


class PlainPairs(unittest.TestCase):
    def told(self, given, pairs):
        kept = copy.deepcopy(given)
        self.assertTrue(same(plain_pairs(given), pairs), plain_pairs(given))
        self.assertTrue(same(given, kept))

    def test_none(self):
        self.told(small(), [])
        self.told(small(NOTHING, put(just(X, 1))), [])

    def test_one_asking(self):
        # At the high one of (0, 1) the leaf is 0 still.
        self.told(small(FALLING), [((0, ()), (), ((X, 1),))])
        self.told(small(NOTHING, ask(L, 4, NOTHING, NOTHING)), [((1, ()), (), ((L, 4),))])

    def test_the_order_of_pairs(self):
        given = small(ask(X, 2, NOTHING, ask(Y, 1, NOTHING, ask(X, 1, NOTHING, NOTHING))), FALLING)
        self.told(given, [((0, ()), ((Y, 1),), ((X, 2), (Y, 1))), ((0, ()), ((X, 1),), ((X, 2),)),
                          ((0, ()), ((X, 1),), ((X, 1), (Y, 1))), ((0, ()), (), ((X, 2),)), ((0, ()), (), ((Y, 1),)),
                          ((0, ()), (), ((X, 1),)), ((1, ()), (), ((X, 1),))])

    def test_leaves_that_are_not_come_to(self):
        # X at least 3 is at least 2, so leaf 1 is never come to.
        self.told(small(ask(X, 3, ask(X, 2, NOTHING, NOTHING), NOTHING)), [((0, ()), (), ((X, 3),))])
        # By yes on the path to leaf 1 both are at least 2: but that leads to leaf 0.
        self.told(small(ask(X, 2, NOTHING, ask(X, 5, NOTHING, NOTHING))), [((0, ()), (), ((X, 2),))])

    def test_marks(self):
        given = program(ask(n("A"), 1, ask(n("B"), 2, NOTHING, NOTHING), NOTHING))
        pairs = plain_pairs(given)
        self.assertEqual([pair[0] for pair in pairs],
                         [(0, ("a", "a"))] * 3 + [(0, ("a", "b"))] * 3 + [(0, ("b", "a"))] * 3 + [(0, ("b", "b"))] * 3)
        self.assertTrue(same(pairs[:3], [((0, ("a", "a")), ((n("a"), 1),), ((n("a"), 2),)), ((0, ("a", "a")), (), ((n("a"), 2),)),
                                         ((0, ("a", "a")), (), ((n("a"), 1),))]))
        self.assertTrue(same(pairs[3], ((0, ("a", "b")), ((n("a"), 1),), ((n("a"), 1), (n("b"), 2)))))

    def test_joined_heights(self):
        given = program(ask(S, ("a",), NOTHING, ask(S, ("b",), NOTHING, NOTHING)))
        self.told(given, [((0, ()), ((S, ("b",)),), ((S, ("a", "b")),)), ((0, ()), (), ((S, ("a",)),)), ((0, ()), (), ((S, ("b",)),))])

    def test_at_most_forty(self):
        names = ("a", "b", "c", "d")
        one, three = ask(n("A"), 1, NOTHING, NOTHING), ask(n("A"), 1, NOTHING, ask(C, "done", NOTHING, NOTHING))
        alone = ask(C, "done", NOTHING, NOTHING)
        for rules, many in (((one,) * 6, 24), ((three, three, three), 36), ((three, one, three, three), 40), ((IDLE,), 40),
                            ((IDLE, alone), 41), ((alone, IDLE), 41), ((three,) * 6, 72), ((IDLE, IDLE, IDLE), 120)):
            given = program(*rules, names=names)
            pairs = pairs_looked_through(given)
            self.assertEqual(len(pairs), many)
            self.told(given, pairs[:40])

    def test_as_looked_through(self):
        chance = random.Random(41)
        many = 0
        for number in range(400):
            given = some_program(chance)
            pairs = pairs_looked_through(given)
            many += len(pairs)
            self.told(given, pairs[:40])
        self.assertGreater(many, 400)

    def test_the_askers_own(self):
        given = small(FALLING)
        plain_pairs(given).append(0)
        self.told(given, [((0, ()), (), ((X, 1),))])


class Parted(unittest.TestCase):
    def parts(self, given):
        kept = copy.deepcopy(given)
        runs = parted(given)
        self.assertTrue(same(given, kept))
        self.assertEqual((type(runs), len(runs)), (tuple, 2))
        self.assertTrue(all(type(thing) is tuple and len(thing) == 2 and type(thing[1]) is tuple for thing in runs))
        self.assertIs(lets_parting(given, *runs), True)
        return runs

    def test_parts(self):
        runs = self.parts(small(FALLING))
        ends = {standing_of(run(small(FALLING), *one), 0) for one in runs}
        self.assertEqual(ends, {((X, 1),), ((X, 1), (Y, 2))})
        self.parts(small(NOTHING, ask(L, 3, put(just(Z, 1)), put(just(Z, 2)))))
        self.parts(program(ask(n("b"), 1, put(just(S, ("a",))), put(just(S, ("b",))))))

    def test_only_a_later_pair_parts(self):
        # The pair of the first rule goes on to the same end.
        given = small(ask(X, 1, put(just(Y, 2)), put(just(Y, 2))), ask(Z, 1, NOTHING, put(just(L, 4))))
        self.assertEqual([parts(given, pair) for pair in plain_pairs(given)], [False, True])
        self.parts(given)

    def test_runs_of_two_rules(self):
        # Where Y is 2, the second rule raises Z.
        given = small(FALLING, ask(Y, 2, put(just(Z, 7)), NOTHING))
        ends = {standing_of(run(given, *one), 0) for one in self.parts(given)}
        self.assertEqual(ends, {((X, 1),), ((X, 1), (Y, 2), (Z, 7))})

    def test_none(self):
        for given in (small(), small(NOTHING), small(ask(X, 1, put(just(Y, 2)), NOTHING)), program(put((n("A"), ("of", n("B")))))):
            self.assertIs(parted(given), None)
            self.assertEqual(rising(given)[0], "rises")

    def test_none_where_the_fall_is_made_up_for(self):
        # Each rule falls, but the other one puts what it lacks.
        given = small(FALLING, put(just(Y, 2)))
        self.assertEqual(rising(given)[0], "falls")
        self.assertIs(parted(given), None)

    def test_none_where_it_never_ends(self):
        given = small(FALLING, put((Z, ("plus", Z, 1))))
        self.assertEqual(rising(given)[0], "falls")
        self.assertIs(parted(given), None)
        # One of the two runs alone does not end.
        given = small(FALLING, ask(Y, 1, put((Z, ("plus", Z, 1))), NOTHING))
        self.assertIs(parted(given), None)

    def test_just_forty_rounds(self):
        for most, told in ((39, True), (40, False)):
            given = small(FALLING, ask(Y, 1, ask(Z, most, NOTHING, put((Z, ("plus", Z, 1)))), NOTHING))
            self.assertIs(parted(given) is not None, told)
        self.parts(small(FALLING, ask(Y, 1, ask(Z, 39, NOTHING, put((Z, ("plus", Z, 1)))), NOTHING)))

    def test_more_than_forty_pairs(self):
        names = ("a", "b", "c", "d")
        fall = ask(C, "done", NOTHING, put(just(S, ("a",))))
        given = program(IDLE, fall, names=names)
        pairs = pairs_looked_through(given)
        self.assertEqual([parts(given, pair) for pair in pairs], [False] * 40 + [True])
        # The first forty alone are told, and the pair that parts is behind them.
        self.assertIs(parted(given), None)
        self.parts(program(fall, IDLE, names=names))
        # Of forty the last one parts.
        three = ask(n("A"), 1, NOTHING, ask(C, "done", NOTHING, NOTHING))
        given = program(three, three, three, ask(C, "done", NOTHING, ask(C, "checked", NOTHING, NOTHING)),
                        ask(S, ("b",), ask(S, ("a",), NOTHING, NOTHING), NOTHING), fall, names=names)
        self.assertEqual([parts(given, pair) for pair in pairs_looked_through(given)], [False] * 40 + [True])
        self.assertIs(parted(given), None)
        given = given[:2] + (given[2][:3] + given[2][4:],)
        self.assertEqual([parts(given, pair) for pair in pairs_looked_through(given)], [False] * 39 + [True])
        self.parts(given)

    def test_as_looked_through(self):
        chance = random.Random(42)
        seen = {True: 0, False: 0}
        for number in range(500):
            given = some_program(chance)
            told = any(parts(given, pair) for pair in plain_pairs(given))
            seen[told] += 1
            if told:
                self.parts(given)
            else:
                self.assertIs(parted(given), None)
        self.assertGreater(min(seen.values()), 50)

    def test_what_is_told_can_be_run(self):
        # Going-ons of more than four hundred deeds, of many cases in each of many rounds.
        count = ask(n("A"), 5 * 39, NOTHING, put((n("A"), ("plus", n("A"), 1))))
        given = program(ask(C, "done", NOTHING, put(just(S, ("a",)))), *[count] * 5, names=("a", "b", "c", "d"))
        for one in self.parts(given):
            self.assertGreater(len(one[1]), 400)
            self.assertIs(is_ended(given, run(given, *one)), True)


class Verdict(unittest.TestCase):
    def judged(self, given):
        kept = copy.deepcopy(given)
        told = verdict(given)
        self.assertTrue(same(given, kept))
        self.assertIs(type(told), tuple)
        if told[0] == "one":
            self.assertEqual(len(told), 2)
            self.assertIs(lets_rising(given, told[1]), True)
        elif told[0] == "parts":
            self.assertEqual(len(told), 3)
            self.assertIs(lets_parting(given, told[1], told[2]), True)
        else:
            self.assertEqual((len(told), told[0]), (2, "open"))
            self.why(given, told[1])
        return told[0]

    def why(self, given, told):
        self.assertIs(type(told), tuple)
        if told[0] == "falls":
            self.assertEqual(len(told), 4)
            self.assertIn(told[1], cases_of(given))
            self.assertIs(falls(given, *told[1:]), True)
        else:
            self.assertTrue(same(told, rising(given)))
            self.assertEqual((len(told), told[0]), (4, "open"))

    def test_one(self):
        for given in (small(), small(ask(X, 1, put(just(Y, 2)), NOTHING)), small(put((X, ("plus", X, 1))))):
            self.assertEqual(self.judged(given), "one")

    def test_parts(self):
        self.assertEqual(self.judged(small(FALLING)), "parts")
        self.assertEqual(self.judged(program(ask(n("A"), 1, put(just(S, ("a",))), put(just(n("A"), 0), just(n("B"), 0))))), "one")
        self.assertEqual(self.judged(program(ask(n("b"), 1, put(just(S, ("a",))), put(just(S, ("b",)))))), "parts")
        self.assertEqual(self.judged(program(ask(n("A"), 1, NOTHING, put(just(("low", "A"), 4))))), "parts")
        # What the one name lacks comes by the other one.
        self.assertEqual(self.judged(program(ask(n("A"), 1, put(just(S, ("a",))), put(just(S, ("b",)))))), "open")

    def test_open(self):
        left = ask(X, 1, put((Y, ("sum", Z, Z))), put((Y, ("of", Z))))
        self.assertTrue(same(verdict(small(left)), ("open", ("open", 0, 1, 0))))
        self.assertTrue(same(verdict(small(NOTHING, left)), ("open", ("open", 1, 1, 0))))
        told = verdict(small(FALLING, put(just(Y, 2))))
        self.assertTrue(same(told, ("open", ("falls", (0, ()), (), ((X, 1),)))))
        for given in (small(left), small(FALLING, put(just(Y, 2))), small(FALLING, put((Z, ("plus", Z, 1))))):
            self.assertEqual(self.judged(given), "open")

    def test_any_programs(self):
        chance = random.Random(43)
        seen = {}
        for number in range(500):
            given = some_program(chance)
            told = self.judged(given)
            seen[told] = seen.get(told, 0) + 1
            self.assertIs(told == "one", rising(given)[0] == "rises")
            self.assertIs(told == "parts", told != "one" and parted(given) is not None)
        self.assertGreater(min(seen[word] for word in ("one", "parts", "open")), 10)

    def test_none_part_a_program_that_rises(self):
        chance = random.Random(44)
        tried = 0
        for number in range(200):
            given = some_program(chance)
            if rising(given)[0] == "rises":
                self.assertIs(parted(given), None)
                for pair in plain_pairs(given):
                    runs = runs_of(given, pair)
                    if runs is not None:
                        tried += 1
                        self.assertEqual(refusal(lets_parting, given, *runs), (NoPaper, ("alike", 0)))
        self.assertGreater(tried, 50)


if __name__ == "__main__":
    unittest.main()
