import itertools
import unittest

from onlyrise.ends import least_closed
from onlyrise.errors import NoProgram
from onlyrise.keeping import Keeper
from onlyrise.standings import joined_standings
from onlyrise.trees import right_program
from tests import samples
from tests.rules import L, NOTHING, X, Y, Z, ask, just, n, program, put, refusal, small
from tests.samples import OTHER_THINGS, same

FALLING = ask(X, 1, NOTHING, put(just(Y, 2)))
# It rises, but no paper tells so.
OPEN = ask(X, 1, put((Y, ("sum", Z, Z))), put((Y, ("of", Z))))
UP_TO_THREE = ask(X, 3, NOTHING, put((X, ("plus", X, 1))))
THREE_MAKES_Y = ask(X, 3, put(just(Y, 7)), NOTHING)
MARKED = put(just(n("A"), 2))
GROWING = put((X, ("plus", X, 1)))


class Checked(unittest.TestCase):
    def stands(self, keeper, given, standing, end):
        self.assertTrue(same(keeper.program(), given))
        self.assertTrue(same(keeper.put_in(), standing))
        self.assertTrue(same(keeper.end(), end))
        self.assertTrue(same(keeper.end(), least_closed(given, standing)))

    def refused(self, call, thing, number):
        self.assertEqual(refusal(call, thing), (NoProgram, (number,)), thing)


class Made(Checked):
    def test_made(self):
        self.stands(Keeper(small(), ()), small(), (), ())
        self.stands(Keeper(small(), ((X, 1),)), small(), ((X, 1),), ((X, 1),))
        self.stands(Keeper(small(UP_TO_THREE), ((L, 2),)), small(UP_TO_THREE), ((L, 2),), ((L, 2), (X, 3)))
        self.stands(Keeper(small(GROWING), ()), small(GROWING), (), None)

    def test_refused(self):
        for rules, number in (((FALLING,), 0), ((OPEN,), 0), ((NOTHING, FALLING), 1), ((UP_TO_THREE, OPEN, FALLING), 1),
                              ((UP_TO_THREE, FALLING, OPEN), 1), ((OPEN, NOTHING, FALLING), 0), ((NOTHING,) * 5 + (OPEN,), 5)):
            self.assertEqual(refusal(Keeper, small(*rules), ()), (NoProgram, (number,)))


class Put(Checked):
    def test_what_rose(self):
        keeper = Keeper(small(UP_TO_THREE, THREE_MAKES_Y), ((X, 1),))
        self.stands(keeper, keeper.program(), ((X, 1),), ((X, 3), (Y, 7)))
        for standing, rose, put_in, end in (
                ((), (), ((X, 1),), ((X, 3), (Y, 7))), (((X, 2),), (), ((X, 2),), ((X, 3), (Y, 7))),
                (((X, 3), (Y, 7)), (), ((X, 3), (Y, 7)), ((X, 3), (Y, 7))),
                (((Z, 4),), ((Z, 4),), ((X, 3), (Y, 7), (Z, 4)), ((X, 3), (Y, 7), (Z, 4))),
                (((X, 1), (Y, 9), (Z, 3)), ((Y, 9),), ((X, 3), (Y, 9), (Z, 4)), ((X, 3), (Y, 9), (Z, 4))),
                (((L, 4), (X, 5)), ((L, 4), (X, 5)), ((L, 4), (X, 5), (Y, 9), (Z, 4)), ((L, 4), (X, 5), (Y, 9), (Z, 4))),
                (((L, 3),), ((L, 3),), ((L, 3), (X, 5), (Y, 9), (Z, 4)), ((L, 3), (X, 5), (Y, 9), (Z, 4)))):
            self.assertTrue(same(keeper.put(standing), rose), standing)
            self.stands(keeper, small(UP_TO_THREE, THREE_MAKES_Y), put_in, end)

    def test_the_height_that_the_end_has_now(self):
        keeper = Keeper(program(), ((("s",), ("a",)),))
        self.assertTrue(same(keeper.put(((("s",), ("b",)),)), ((("s",), ("a", "b")),)))
        self.assertTrue(same(keeper.put(((("s",), ("a",)),)), ()))
        keeper = Keeper(small(put((Y, ("plus", X, 2)))), ())
        self.assertTrue(same(keeper.put(((X, 5),)), ((X, 5), (Y, 7))))

    def test_none_where_there_is_no_end(self):
        given = small(ask(X, 1, put((Y, ("plus", Y, 1))), NOTHING))
        keeper = Keeper(given, ())
        self.stands(keeper, given, (), ())
        self.assertTrue(same(keeper.put(((Z, 1),)), ((Z, 1),)))
        self.assertIs(keeper.put(((X, 1),)), None)
        self.stands(keeper, given, ((X, 1), (Z, 1)), None)
        self.assertIs(keeper.put(((Z, 2),)), None)
        self.stands(keeper, given, ((X, 1), (Z, 2)), None)

    def test_none_where_there_was_none(self):
        # More than 200 cases from nothing, but fewer from 100.
        given = small(ask(X, 250, NOTHING, put((X, ("plus", X, 1)))))
        keeper = Keeper(given, ())
        self.stands(keeper, given, (), None)
        self.assertIs(keeper.put(((X, 100),)), None)
        self.stands(keeper, given, ((X, 100),), ((X, 250),))
        self.assertTrue(same(keeper.put(((X, 300),)), ((X, 300),)))


class Rule(Checked):
    def test_what_rose(self):
        keeper = Keeper(small(THREE_MAKES_Y), ((X, 2),))
        self.assertTrue(same(keeper.rule(NOTHING), ()))
        self.assertTrue(same(keeper.rule(UP_TO_THREE), ((X, 3), (Y, 7))))
        self.stands(keeper, small(THREE_MAKES_Y, NOTHING, UP_TO_THREE), ((X, 2),), ((X, 3), (Y, 7)))
        self.assertIs(keeper.rule(GROWING), None)
        self.assertIs(keeper.rule(NOTHING), None)
        self.stands(keeper, small(THREE_MAKES_Y, NOTHING, UP_TO_THREE, GROWING, NOTHING), ((X, 2),), None)

    def test_refused_and_nothing_changed(self):
        given = small(UP_TO_THREE, NOTHING)
        keeper = Keeper(given, ((L, 1),))
        for tree in OTHER_THINGS + (put(just(X, None)), ("put", []), put(just(("q",), 1)), ["put", ()], put(*[just(X, 1)] * 4),
                                    put((X, ("plus", X, 1001))), put((X, ("plus", X, True))), samples.nested((), 28), (NOTHING,)):
            self.refused(keeper.rule, tree, 2)
        self.refused(keeper.rule, FALLING, 2)
        self.refused(keeper.rule, OPEN, 2)
        self.stands(keeper, given, ((L, 1),), ((L, 1), (X, 3)))

    def test_at_most_six(self):
        keeper = Keeper(small(*[NOTHING] * 5), ())
        self.refused(keeper.rule, FALLING, 5)
        self.refused(keeper.rule, None, 5)
        self.assertTrue(same(keeper.rule(NOTHING), ()))
        for tree in (NOTHING, FALLING, None, [], OPEN):
            self.refused(keeper.rule, tree, -1)
        self.stands(keeper, small(*[NOTHING] * 6), (), ())


class Name(Checked):
    def test_what_rose(self):
        keeper = Keeper(program(MARKED, put((n("a"), ("of", n("A"))))), ((n("b"), 5),))
        self.assertTrue(same(keeper.name("ab"), ((n("ab"), 2),)))
        self.stands(keeper, program(MARKED, put((n("a"), ("of", n("A")))), names=("b", "a", "ab")), ((n("b"), 5),),
                    ((n("a"), 5), (n("ab"), 2), (n("b"), 5)))
        self.assertTrue(same(keeper.put(((n("ab"), 9),)), ((n("a"), 9), (n("ab"), 9))))
        self.assertTrue(same(Keeper(program(), ()).name("c"), ()))

    def test_none_where_there_is_no_end(self):
        keeper = Keeper(program(put((n("A"), ("plus", n("A"), 1)))), ())
        self.assertIs(keeper.name("c"), None)
        # Of one name there are 150 cases to do, of two 300.
        given = program(ask(n("A"), 150, NOTHING, put((n("A"), ("plus", n("A"), 1)))), names=("a",))
        keeper = Keeper(given, ())
        self.stands(keeper, given, (), ((n("a"), 150),))
        self.assertIs(keeper.name("b"), None)
        self.assertIs(keeper.end(), None)
        self.assertIs(keeper.put(((n("a"), 140),)), None)
        self.assertEqual(keeper.end(), ((n("a"), 150), (n("b"), 150)))

    def test_refused_and_nothing_changed(self):
        keeper = Keeper(program(MARKED), ())
        for word in ("a", "b", "", "A", "abcdefghi", "a b", "a1", "*", "a\nb", "~", "Ab", " "):
            self.refused(keeper.name, word, -1)
        self.stands(keeper, program(MARKED), (), ((n("a"), 2), (n("b"), 2)))

    def test_at_most_four(self):
        keeper = Keeper(program(MARKED), ())
        keeper.name("c")
        keeper.name("d")
        self.refused(keeper.name, "e", -1)
        self.assertEqual(keeper.program()[0], ("b", "a", "c", "d"))


class InWhateverOrder(Checked):
    def test_the_end_is_that_of_beginning_anew(self):
        def deeds():
            return (lambda keeper: keeper.put(((n("a"), 3),)), lambda keeper: keeper.put(((("c",), "done"),)),
                    lambda keeper: keeper.rule(MARKED), lambda keeper: keeper.name("c"),
                    lambda keeper: keeper.rule(ask(n("A"), 3, put((n("B"), ("of", n("A")))), NOTHING)))
        ends = set()
        for order in itertools.permutations(deeds()):
            keeper = Keeper(program(), ((n("b"), 1),))
            now = keeper.end()
            for deed in order:
                rose = deed(keeper)
                # What rose is what the end has now, and had lower.
                self.assertTrue(same(joined_standings(program()[:2], now, rose), keeper.end()))
                self.assertTrue(all(pair not in now for pair in rose))
                now = keeper.end()
            self.assertIs(right_program(keeper.program()), True)
            self.stands(Keeper(keeper.program(), keeper.put_in()), keeper.program(), keeper.put_in(), now)
            ends.add(now)
        self.assertEqual(ends, {((("c",), "done"), (n("a"), 3), (n("b"), 3), (n("c"), 3))})

    def test_keepers_are_each_on_their_own(self):
        one, other = Keeper(small(), ()), Keeper(small(), ())
        one.put(((X, 1),))
        one.rule(UP_TO_THREE)
        self.stands(other, small(), (), ())
        self.stands(one, small(UP_TO_THREE), ((X, 1),), ((X, 3),))


if __name__ == "__main__":
    unittest.main()
