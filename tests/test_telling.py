import copy
import random
import unittest

from onlyrise.askings import word_between
from onlyrise.doing import done, is_closed, walked
from onlyrise.roofing import is_closed_roof, roof_done
from onlyrise.roofs import bound_in, is_under, joined_roofs, raised, widest
from onlyrise.telling import plain_way, word_told
from onlyrise.trees import cases_of
from onlyrise.wordchecker import lets_word
from tests.rules import NOTHING, X, Y, Z, ask, just, n, program, put, small, some_asking, some_program, some_roof, some_standing
from tests.samples import same


def waiting(most):
    """X goes up to most, where Y is 1: on roofs alone, where the standing has no Y."""
    return small(ask(Y, 1, ask(X, most, NOTHING, put((X, ("plus", X, 1)))), NOTHING))


def counting(most):
    return small(ask(X, most, NOTHING, put((X, ("plus", X, 1)))))


def way(given, low, high):
    """The plain way as plainly as it is told."""
    cases, standing = [], low
    while len(cases) < 100 and not is_closed(given, standing):
        for case in cases_of(given):
            if len(cases) < 100 and done(given, standing, case) != standing:
                cases.append(case)
                standing = done(given, standing, case)
    roof = joined_roofs(given[:2], high, standing)
    number = 0
    while True:
        number += 1
        ahead = roof
        for case in cases_of(given):
            roof = roof_done(given, roof, case)
        if roof == ahead:
            return (tuple(cases), roof, number)
        if number >= 13:
            for thing, bound in roof:
                if bound_in(given[:2], ahead, thing) != bound:
                    roof = raised(given[:2], roof, thing, "*")


class Checked(unittest.TestCase):
    def way(self, given, low, high):
        kept = copy.deepcopy((given, low, high))
        told = plain_way(given, low, high)
        self.assertTrue(same((given, low, high), kept))
        cases, roof, number = way(given, low, high)
        self.assertTrue(same(told, (cases, roof)), (told, roof))
        self.assertIs(is_closed_roof(given, roof), True)
        self.assertIs(is_under(given[:2], high, roof), True)
        self.assertIs(is_under(given[:2], walked(given, low, cases), roof), True)
        return (cases, roof, number)

    def told(self, given, low, high, asking):
        kept = copy.deepcopy((given, low, high, asking))
        paper = word_told(given, low, high, asking)
        self.assertTrue(same((given, low, high, asking), kept))
        cases, roof, number = way(given, low, high)
        word = word_between(given[:2], walked(given, low, cases), roof, asking)
        self.assertIs(type(paper), tuple)
        if paper[0] == "open":
            self.assertTrue(same(paper, ("open",)))
            self.assertEqual(word, "open")
        else:
            self.assertIs(lets_word(given, low, high, asking, paper), True)
            self.assertEqual(paper[0], word)
        return paper[0]


class PlainWay(Checked):
    def test_no_cases(self):
        self.assertEqual(self.way(small(), (), ())[:2], ((), ()))
        self.assertEqual(self.way(small(), ((X, 1),), ((Y, "*"),))[:2], ((), ((X, 1), (Y, "*"))))
        self.assertEqual(self.way(counting(5), ((X, 5),), ())[:2], ((), ((X, 5),)))

    def test_some_cases(self):
        given = small(ask(Y, 1, put(just(Z, 1)), NOTHING), ask(X, 1, put(just(Y, 1)), NOTHING))
        cases, roof, number = self.way(given, ((X, 1),), ((X, 4),))
        self.assertEqual((cases, roof), (((1, ()), (0, ())), ((X, 4), (Y, 1), (Z, 1))))

    def test_just_a_hundred_cases_and_more(self):
        for most, told in ((99, 99), (100, 100), (101, 100), (150, 100)):
            cases, roof, number = self.way(counting(most), (), ())
            self.assertEqual(len(cases), told)
            # The hundred and first is done on the roof.
            self.assertEqual(roof, ((X, most if most <= 112 else "*"),))
        for most, bound in ((112, 112), (113, "*")):
            self.assertEqual(self.way(counting(most), (), ())[1], ((X, bound),))
        names = ("a", "b", "c")
        given = program(ask(n("A"), 40, NOTHING, put((n("A"), ("plus", n("A"), 1)))), names=names)
        cases = self.way(given, (), ())[0]
        self.assertEqual([cases.count((0, (name,))) for name in names], [34, 33, 33])

    def test_roofs_at_rest_around_the_thirteenth_round(self):
        # The roof rises once in a round: that of so many rounds rests in the next one.
        for most, bound, rounds in ((1, 1, 2), (10, 10, 11), (11, 11, 12), (12, 12, 13), (13, "*", 14), (14, "*", 14), (900, "*", 14)):
            cases, roof, number = self.way(waiting(most), (), ((Y, 1),))
            self.assertEqual((cases, roof, number), ((), ((X, bound), (Y, 1)), rounds), most)
        self.assertEqual(self.way(waiting(900), (), ((X, 888), (Y, 1)))[1], ((X, 900), (Y, 1)))
        self.assertEqual(self.way(waiting(900), (), ((X, 887), (Y, 1)))[1], ((X, "*"), (Y, 1)))

    def test_rounds_with_cases_that_change_nothing(self):
        for most, bound, rounds in ((11, 11, 12), (12, 12, 13), (13, "*", 14), (20, "*", 14)):
            for rules in ((NOTHING,) + waiting(most)[2], waiting(most)[2] + (NOTHING,) * 5, (NOTHING, NOTHING) + waiting(most)[2] + (NOTHING,)):
                self.assertEqual(self.way(small(*rules), (), ((Y, 1),))[1:], (((X, bound), (Y, 1)), rounds), most)

    def test_only_what_has_risen_gets_no_bound(self):
        given = small(ask(Y, 1, ask(X, 13, put(just(Z, 4)), put((X, ("plus", X, 1)))), NOTHING))
        # Z rises behind X, in the fourteenth round.
        self.assertEqual(self.way(given, (), ((Y, 1),))[1:], (((X, "*"), (Y, 1), (Z, "*")), 15))
        given = small(ask(Y, 1, ask(X, 12, put(just(Z, 4)), put((X, ("plus", X, 1)))), NOTHING))
        self.assertEqual(self.way(given, (), ((Y, 1),))[1:], (((X, 12), (Y, 1), (Z, "*")), 14))
        given = small(ask(Y, 1, ask(X, 11, put(just(Z, 4)), put((X, ("plus", X, 1)))), NOTHING))
        self.assertEqual(self.way(given, (), ((Y, 1),))[1:], (((X, 11), (Y, 1), (Z, 4)), 13))

    def test_heights_with_a_top_get_no_bound_too(self):
        heads = (("x", 0, ("num",)), ("c", 0, ("chain", ("raw", "done"))), ("y", 0, ("num",)))
        given = (("a",), heads, (ask(Y, 1, ask(X, 12, put(just(("c",), "done")), put((X, ("plus", X, 1)))), NOTHING),))
        self.assertEqual(self.way(given, (), ((Y, 1),))[1], ((("c",), "*"), (X, 12), (Y, 1)))

    def test_many_things_get_no_bound_one_behind_the_other(self):
        names = ("a", "b", "c", "d")
        given = (names, (("n", 2, ("num",)), ("go", 0, ("num",))),
                 (ask(("go",), 1, put((("n", "a", "a"), ("plus", ("n", "a", "a"), 1))), NOTHING),
                  ask(("n", "A", "B"), 14, put((("n", "B", "C"), ("of", ("n", "A", "B")))), NOTHING)))
        cases, roof, number = self.way(given, (), ((("go",), 1),))
        self.assertEqual(len(roof), 17)
        self.assertTrue(all(bound == "*" for thing, bound in roof[1:]))

    def test_cases_within_a_round_build_on_one_another(self):
        # Three in each round: those of the first rule, of the second, of the third.
        given = small(*waiting(37)[2] * 3)
        self.assertEqual(self.way(given, (), ((Y, 1),))[1], ((X, "*"), (Y, 1)))
        given = small(*waiting(36)[2] * 3)
        self.assertEqual(self.way(given, (), ((Y, 1),))[1], ((X, 36), (Y, 1)))

    def test_endless(self):
        given = small(put((X, ("plus", X, 1)), (Z, ("of", Y))))
        cases, roof, number = self.way(given, (), ((Y, 3),))
        self.assertEqual((len(cases), roof), (100, ((X, "*"), (Y, 3), (Z, 3))))

    def test_any(self):
        chance = random.Random(49)
        for number in range(400):
            given = some_program(chance)
            self.way(given, some_standing(chance, given[:2]), some_roof(chance, given[:2]))


class WordTold(Checked):
    def test_words(self):
        given = small(ask(X, 2, put(just(Y, 5)), NOTHING))
        for asking, low, high, told in ((("least", Y, 5), ((X, 2),), ((X, 2),), "yes"), (("least", Y, 5), ((X, 1),), ((X, 1),), "no"),
                                        (("least", Y, 5), ((X, 1),), ((X, 2),), "open"), (("least", Y, 5), ((X, 1),), widest(given[:2]), "open"),
                                        (("least", Y, 5), ((X, 2),), widest(given[:2]), "yes"), (("least", Y, 6), ((X, 2),), ((X, "*"),), "no"),
                                        (("not", ("least", Y, 6)), ((X, 2),), ((X, "*"),), "yes"), (("least", X, 0), (), (), "yes")):
            self.assertEqual(self.told(given, low, high, asking), told, asking)

    def test_words_of_endless_programs(self):
        given = small(put((X, ("plus", X, 1))), ask(Z, 1, put(just(Y, 1)), NOTHING))
        self.assertEqual(self.told(given, (), (), ("least", X, 50)), "yes")
        self.assertEqual(self.told(given, (), (), ("least", X, 100)), "yes")
        # It is so, but not by the plain way.
        self.assertEqual(self.told(given, (), (), ("least", X, 101)), "open")
        self.assertEqual(self.told(given, (), (), ("least", Y, 1)), "no")

    def test_words_told_by_roofs_that_lost_a_bound(self):
        for most, told in ((12, "no"), (13, "open")):
            self.assertEqual(self.told(waiting(most), (), ((Y, 1),), ("least", X, most + 1)), told)
            self.assertEqual(self.told(waiting(most), (), ((Y, 1),), ("least", Y, 2)), "no")

    def test_any(self):
        chance = random.Random(50)
        seen = {"yes": 0, "no": 0, "open": 0}
        for number in range(900):
            given = some_program(chance)
            low, high = some_standing(chance, given[:2]), some_roof(chance, given[:2])
            seen[self.told(given, low, high, some_asking(chance, given[:2]))] += 1
        self.assertGreater(min(seen.values()), 100)


if __name__ == "__main__":
    unittest.main()
