import itertools
import unittest

from onlyrise.doing import done, is_closed, walked
from onlyrise.endchecker import lets_end
from onlyrise.errors import NoPaper
from onlyrise.ends import end_of, least_closed
from onlyrise.trees import cases_of
from tests import samples
from tests.rules import L, M, NOTHING, X, Y, Z, ask, just, n, program, put, refusal, small
from tests.samples import same


def counting(most):
    """X goes up to most, one at a time."""
    return small(ask(X, most, NOTHING, put((X, ("plus", X, 1)))))


def rounds(given, standing, most):
    """Rounds as plainly as they are told: the cases done, and the standing behind them, or None where it goes on."""
    cases = []
    while not is_closed(given, standing):
        for case in cases_of(given):
            if done(given, standing, case) != standing:
                if len(cases) == most:
                    return (cases, standing, None)
                cases.append(case)
                standing = done(given, standing, case)
    return (cases, standing, standing)


class Checked(unittest.TestCase):
    def ends(self, given, standing, end, many=None):
        paper = end_of(given, standing)
        self.assertIs(type(paper), tuple)
        self.assertEqual(paper[0], "end")
        self.assertEqual(len(paper), 2)
        self.assertIs(lets_end(given, standing, paper), True)
        self.assertLessEqual(len(paper[1]), 200)
        self.assertTrue(same(walked(given, standing, paper[1]), end))
        self.assertTrue(same(least_closed(given, standing), end))
        if many is not None:
            self.assertEqual(len(paper[1]), many)

    def endless(self, given, standing):
        paper = end_of(given, standing)
        self.assertEqual(paper[0], "endless")
        self.assertIs(lets_end(given, standing, paper), True)
        self.assertLessEqual(len(paper[1]), 200)
        self.assertIs(least_closed(given, standing), None)
        return paper[2]

    def left_open(self, given, standing):
        self.assertTrue(same(end_of(given, standing), ("open",)))
        self.assertIs(least_closed(given, standing), None)


class Ends(Checked):
    def test_of_no_cases(self):
        self.ends(small(), (), (), 0)
        self.ends(small(), ((L, 4), (X, 2)), ((L, 4), (X, 2)), 0)
        self.ends(counting(3), ((X, 3),), ((X, 3),), 0)
        self.ends(small(NOTHING, NOTHING), (), (), 0)

    def test_of_one_round(self):
        given = program(put(just(n("A"), 2)), ask(n("a"), 2, put(just(("c",), "done")), NOTHING))
        self.ends(given, (), ((("c",), "done"), (n("a"), 2), (n("b"), 2)), 3)

    def test_of_several_rounds(self):
        given = small(ask(Y, 1, put(just(Z, 1)), NOTHING), ask(X, 1, put(just(Y, 1)), NOTHING), put(just(X, 1)))
        self.ends(given, (), ((X, 1), (Y, 1), (Z, 1)), 3)
        self.ends(given, ((Z, 5),), ((X, 1), (Y, 1), (Z, 5)), 2)

    def test_just_so_many_cases_and_one_more(self):
        self.ends(counting(199), (), ((X, 199),), 199)
        self.ends(counting(200), (), ((X, 200),), 200)
        self.ends(counting(210), ((X, 10),), ((X, 210),), 200)
        self.left_open(counting(201), ())
        self.left_open(counting(211), ((X, 10),))
        self.ends(counting(samples.TWENTY), ((X, samples.TWENTY - 1),), ((X, samples.TWENTY),), 1)

    def test_low_comes_to_an_end(self):
        # The shortest ways from a to c, through b.
        heads = (("way", 2, ("low",)),)
        given = (("a", "b", "c"), heads, (put((("way", "A", "C"), ("sum", ("way", "A", "B"), ("way", "B", "C")))),))
        standing = ((("way", "a", "b"), 2), (("way", "a", "c"), 9), (("way", "b", "c"), 3))
        self.ends(given, standing, ((("way", "a", "b"), 2), (("way", "a", "c"), 5), (("way", "b", "c"), 3)), 1)

    def test_as_rounds_are_told(self):
        rules = (ask(n("A"), 2, put((n("B"), ("plus", n("A"), 1))), put(just(n("A"), 1))), put((n("A"), ("sum", n("B"), n("a")))),
                 ask(n("a"), 3, NOTHING, put((n("a"), ("plus", n("b"), 1)))), put(just(n("A"), 5)), ask(n("A"), 7, NOTHING, put(just(n("A"), 7))))
        many = 0
        for chosen in itertools.permutations(rules, 2):
            for standing in ((), ((n("a"), 1),), ((n("b"), 2),), ((n("a"), 2), (n("b"), 3))):
                given = program(*chosen)
                cases, behind, closed = rounds(given, standing, 200)
                self.assertTrue(same(least_closed(given, standing), closed))
                told = end_of(given, standing)
                if closed is not None:
                    many += 1
                    self.ends(given, standing, closed)
                elif told[0] == "endless":
                    self.endless(given, standing)
                else:
                    self.left_open(given, standing)
                    self.no_short_ring(given, behind)
        self.assertGreater(many, 10)

    def no_short_ring(self, given, behind):
        steps = [(case, m) for case in cases_of(given) for m in range(2)]
        for many in (1, 2):
            for ring in itertools.product(steps, repeat=many):
                self.assertIs(refusal(lets_end, given, behind, ("endless", (), ring))[0], NoPaper)


class Endless(Checked):
    def test_a_ring_of_one(self):
        self.assertEqual(len(self.endless(small(put((X, ("plus", X, 1)))), ())), 1)
        self.endless(small(put((X, ("plus", X, 1000)))), ((X, samples.TWENTY),))
        self.endless(small(put((Y, ("of", X)), (X, ("of", X)), (X, ("plus", X, 1)))), ())
        # Only the second one of these grows.
        self.endless(small(put((Z, ("plus", Z, 0))), put((X, ("plus", X, 3)))), ())

    def test_a_ring_of_several(self):
        given = small(put((Y, ("of", X))), put((X, ("plus", Z, 1))), put((Z, ("plus", Y, 0))))
        self.assertEqual(len(self.endless(given, ())), 3)
        given = small(put((Y, ("plus", X, 1))), put((X, ("of", Y))))
        self.assertEqual(len(self.endless(given, ())), 2)

    def test_a_ring_through_many_things(self):
        names = ("a", "b", "c", "d")
        heads = (("n", 2, ("num",)),)
        things = [("n", one, other) for one in names for other in names]
        links = list(zip(things, things[1:] + things[:1]))
        leaves = [put(*[(to, ("plus", source, 0 if k else 1)) for k, (source, to) in enumerate(links[at:at + 3], at)])
                  for at in range(0, 16, 3)]
        given = (names, heads, tuple(leaves))
        self.assertEqual(len(leaves), 6)
        self.assertEqual(len(self.endless(given, ())), 16)
        # A ring that lacks one link is none, but then it ends.
        broken = (names, heads, tuple(leaves[:5]))
        self.ends(broken, (), tuple((thing, 1) for thing in sorted(things[1:])))

    def test_dead_ends_beside_a_ring(self):
        given = small(put((Z, ("plus", X, 1)), (Y, ("plus", X, 1)), (X, ("of", Y))))
        self.endless(given, ())
        given = small(put((Z, ("plus", Y, 5)), (Y, ("plus", Y, 0)), (X, ("plus", X, 2))))
        self.endless(given, ())

    def test_a_ring_that_turns_back_on_itself(self):
        # What grows is a side way out of a ring of ofs and back into it.
        given = small(put((Y, ("of", X)), (X, ("of", Y)), (Z, ("plus", X, 1))), put((Y, ("of", Z))))
        self.endless(given, ())

    def test_named_things(self):
        given = program(ask(n("A"), 1, put((n("B"), ("plus", n("A"), 1))), NOTHING))
        self.endless(given, ((n("a"), 1),))
        self.ends(given, (), (), 0)
        # The ring is looked for behind the cases, where n.b has risen.
        given = program(ask(n("b"), 9, put((n("a"), ("plus", n("a"), 1))), NOTHING), ask(n("b"), 9, NOTHING, put((n("b"), ("plus", n("b"), 1)))))
        self.endless(given, ())

    def test_what_rises_only_behind_the_cases(self):
        given = small(put((X, ("plus", Y, 1))), ask(X, 1, put((Y, ("of", X))), NOTHING))
        self.endless(given, ())
        self.ends(small(put((X, ("plus", Y, 1))), ask(X, 2, put((Y, ("of", X))), NOTHING)), (), ((X, 1),), 1)


class Open(Checked):
    def test_no_ring(self):
        self.left_open(small(put((X, ("sum", X, X)))), ((X, 1),))
        self.left_open(small(ask(Y, 1, NOTHING, put((X, ("plus", X, 1))))), ())
        self.left_open(counting(1000), ())
        self.left_open(small(put((X, ("sum", X, Y))), put(just(Y, 1))), ())

    def test_low_has_no_ring(self):
        self.ends(small(put((L, ("plus", L, 1)))), ((L, 3),), ((L, 3),), 0)
        self.left_open(small(put((M, ("plus", M, 1))), put((X, ("sum", X, X)))), ((M, 3), (X, 1)))

    def test_a_ring_beside_sums(self):
        given = small(put((X, ("sum", X, X)), (X, ("plus", X, 1))))
        self.assertEqual(self.endless(given, ()), (((0, ()), 1),))


if __name__ == "__main__":
    unittest.main()
