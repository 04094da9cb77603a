import unittest

from onlyrise.endchecker import lets_end
from onlyrise.errors import NoPaper
from tests import samples
from tests.rules import L, NOTHING, X, Y, Z, ask, just, n, program, put, refusal, small
from tests.samples import OTHER_THINGS

R0, R1, R2, R3 = [(k, ()) for k in range(4)]
COUNTING = small(ask(X, 3, NOTHING, put((X, ("plus", X, 1)))))
CLIMBING = small(put((X, ("plus", Y, 1))), ask(X, 1, put((Z, ("just", 1)), (Y, ("of", X))), NOTHING))
MARKED = program(ask(n("A"), 1, put((n("B"), ("plus", n("A"), 1))), NOTHING))


class Checked(unittest.TestCase):
    def lets(self, given, standing, paper):
        self.assertIs(lets_end(given, standing, paper), True, paper)

    def refused(self, given, standing, paper, word, number):
        self.assertEqual(refusal(lets_end, given, standing, paper), (NoPaper, (word, number)), paper)


class Ends(Checked):
    def test_let_by(self):
        self.lets(small(), (), ("end", ()))
        self.lets(small(), ((X, 1),), ("end", ()))
        self.lets(COUNTING, ((X, 3),), ("end", ()))
        self.lets(COUNTING, ((X, 2),), ("end", (R0,)))
        self.lets(COUNTING, (), ("end", (R0,) * 3))
        # Cases that change nothing may stand in it, too, however many.
        self.lets(COUNTING, (), ("end", (R0,) * 3000))
        self.lets(program(put(just(n("A"), 1))), (), ("end", ((0, ("b",)), (0, ("a",)))))

    def test_not_closed(self):
        self.refused(COUNTING, (), ("end", ()), "closed", 0)
        self.refused(COUNTING, (), ("end", (R0,) * 2), "closed", 0)
        self.refused(COUNTING, ((L, 1), (X, 1)), ("end", (R0,)), "closed", 0)
        self.refused(CLIMBING, (), ("end", (R0, R1) * 5), "closed", 0)
        self.refused(program(put(just(n("A"), 1))), (), ("end", ((0, ("b",)),)), "closed", 0)

    def test_cases_are_walked_from_the_input_on(self):
        given = small(ask(X, 1, put(just(Y, 1)), NOTHING), put(just(X, 1)))
        self.lets(given, (), ("end", (R1, R0)))
        self.refused(given, (), ("end", (R0, R1)), "closed", 0)
        self.lets(given, ((X, 1),), ("end", (R0,)))


class Endless(Checked):
    def test_let_by(self):
        own = small(put((X, ("plus", X, 1))))
        self.lets(own, (), ("endless", (), ((R0, 0),)))
        self.lets(own, (), ("endless", (R0,) * 7, ((R0, 0), (R0, 0))))
        self.lets(CLIMBING, (), ("endless", (R0, R1, R0, R1), ((R0, 0), (R1, 1))))
        self.lets(CLIMBING, (), ("endless", (R0, R1, R0, R1), ((R1, 1), (R0, 0))))
        self.lets(CLIMBING, ((X, 2),), ("endless", (), ((R1, 1), (R0, 0)) * 3))
        self.lets(small(put((X, ("plus", X, 1000)))), (), ("endless", (), ((R0, 0),)))
        self.lets(small(put((X, ("of", X)), (X, ("plus", X, 2)))), (), ("endless", (), ((R0, 0), (R0, 1))))

    def test_named_things(self):
        standing = ((n("a"), 1), (n("b"), 1))
        self.lets(MARKED, standing, ("endless", (), (((0, ("a", "b")), 0), ((0, ("b", "a")), 0))))
        self.lets(MARKED, standing, ("endless", (), (((0, ("a", "a")), 0),)))
        self.refused(MARKED, standing, ("endless", (), (((0, ("a", "b")), 0),)), "source", 0)
        self.lets(MARKED, ((n("a"), 1),), ("endless", ((0, ("a", "b")),), (((0, ("b", "b")), 0),)))

    def test_the_leaf_is_come_to_behind_the_cases(self):
        self.refused(CLIMBING, (), ("endless", (), ((R0, 0), (R1, 1))), "ring", 1)
        self.refused(CLIMBING, (), ("endless", (R1,), ((R0, 0), (R1, 1))), "ring", 1)
        self.lets(CLIMBING, (), ("endless", (R0,), ((R0, 0), (R1, 1))))
        self.refused(MARKED, ((n("a"), 1),), ("endless", (), (((0, ("a", "a")), 0), ((0, ("b", "b")), 0))), "ring", 1)
        given = small(ask(X, 2, ask(Y, 1, put((Z, ("plus", Z, 1))), put((Z, ("plus", Z, 1)))), put((Z, ("plus", Z, 1)))))
        ring = ((R0, 0),)
        self.refused(given, (), ("endless", (), ring), "ring", 0)
        self.refused(given, ((X, 2),), ("endless", (), ring), "ring", 0)
        self.refused(given, ((X, 1), (Y, 1)), ("endless", (), ring), "ring", 0)
        self.lets(given, ((X, 2), (Y, 1)), ("endless", (), ring))

    def test_a_put_that_is_there(self):
        given = small(put((X, ("plus", X, 1)), (Y, ("plus", Y, 1))), NOTHING)
        self.lets(given, (), ("endless", (), ((R0, 1),)))
        for number in (2, 3, -1, -2, samples.TWENTY):
            self.refused(given, (), ("endless", (), ((R0, 0), (R0, number))), "ring", 1)
        self.refused(given, (), ("endless", (), ((R1, 0),)), "ring", 0)
        self.refused(given, (), ("endless", (), ((R1, -1),)), "ring", 0)

    def test_the_puts_of_the_leaf_0(self):
        given = small(ask(X, 1, put((Y, ("plus", Y, 1))), put((X, ("plus", X, 1)), (X, ("plus", X, 1)))))
        self.lets(given, ((X, 1),), ("endless", (), ((R0, 0),)))
        self.refused(given, ((X, 1),), ("endless", (), ((R0, 1),)), "ring", 0)
        self.refused(given, (), ("endless", (), ((R0, 0),)), "ring", 0)

    def test_puts_of_another_order_or_term(self):
        for thing, term in ((L, ("plus", L, 1)), (L, ("of", L)), (X, ("just", 1)), (X, ("sum", X, X)), (X, ("meet", X, X))):
            given = small(put((X, ("plus", X, 1))), put((thing, term)))
            self.refused(given, ((L, 3), (X, 1)), ("endless", (), ((R0, 0), (R1, 0))), "ring", 1)
        for order, term in ((samples.CHAIN, ("of", ("p",))), (samples.SET, ("of", ("p",))), (("newer", ("num",)), ("of", ("p",)))):
            given = (("a",), (("p", 0, order),), (put((("p",), term)),))
            self.refused(given, (), ("endless", (), ((R0, 0),)), "ring", 0)

    def test_sources(self):
        given = small(put((X, ("plus", Z, 1))), put((Y, ("plus", X, 1))), put((Z, ("of", Y))), put((Z, ("plus", Z, 1))))
        self.lets(given, (), ("endless", (), ((R0, 0), (R1, 0), (R2, 0))))
        self.lets(given, (), ("endless", (), ((R1, 0), (R2, 0), (R0, 0))))
        self.lets(given, (), ("endless", (), ((R1, 0), (R2, 0), (R3, 0), (R3, 0), (R0, 0))))
        for ring, number in ((((R0, 0), (R2, 0), (R1, 0)), 0), (((R0, 0), (R1, 0)), 0), (((R0, 0),), 0),
                             (((R1, 0), (R0, 0)), 1), (((R3, 0), (R0, 0), (R1, 0), (R2, 0), (R0, 0)), 0),
                             (((R0, 0), (R1, 0), (R1, 0), (R2, 0)), 2), (((R0, 0), (R1, 0), (R2, 0), (R1, 0), (R2, 0)), 3)):
            self.refused(given, (), ("endless", (), ring), "source", number)

    def test_grows(self):
        given = small(put((X, ("of", Y))), put((Y, ("plus", X, 0))), put((X, ("plus", X, 1))))
        self.refused(given, (), ("endless", (), ((R0, 0), (R1, 0))), "grows", 0)
        self.refused(given, ((X, 5),), ("endless", (R1, R0), ((R1, 0), (R0, 0)) * 4), "grows", 0)
        self.lets(given, (), ("endless", (), ((R0, 0), (R2, 0), (R1, 0))))


class Refused(Checked):
    def test_shape(self):
        ring = ((R0, 0),)
        things = OTHER_THINGS + (
            ("end",), ("end", [R0]), ["end", ()], ("end", None), ("end", "r"), ("end", (), ()), ("end", (), ring), ("End", ()),
            ("open",), ("open", ()), (True, ()), ("endless", ()), ("endless", (), ()), ("endless", (), []), ("endless", (), None),
            ("endless", [], ring), ["endless", (), ring], ("endless", (), [(R0, 0)]), ("endless", (), ring, ()), ("endless", 0, ring),
            (("end",), ()), (["end"], ()), ("endless", (), "ring"), ((), ("endless",), ring), samples.nested("end", 29),
        )
        for thing in things:
            self.refused(COUNTING, (), thing, "shape", 0)

    def test_case(self):
        things = OTHER_THINGS + (
            R1, (-1, ()), (True, ()), (False, ()), (None, ()), ("0", ()), (samples.TWENTY, ()), (0,), (0, (), ()), [0, ()], (0, []),
            (0, None), (0, ""), (0, ("a",)), (0, 0), ((0,), ()), ([0], ()),
        )
        for thing in things:
            for paper in (("end", (thing,)), ("endless", (thing,), ((R0, 0),))):
                self.refused(COUNTING, (), paper, "case", 0)
            self.refused(COUNTING, (), ("end", (R0, R0, thing, None)), "case", 2)

    def test_case_with_words(self):
        self.lets(MARKED, (), ("end", ((0, ("a", "b")),)))
        for words in ((), ("a",), ("a", "b", "a"), ["a", "b"], ("a", "c"), ("a", "A"), ("a", ""), ("a", None), ("a", True),
                      ("a", ["b"]), ("a", ("b",)), "ab", ("n", "a")):
            self.refused(MARKED, (), ("end", ((0, ("a", "b")), (0, words))), "case", 1)

    def test_a_ring_of_other_things(self):
        given = small(put((X, ("plus", X, 1))))
        things = OTHER_THINGS + (
            (R0,), (R0, 0, 0), [R0, 0], (R0, True), (R0, False), (R0, None), (R0, "0"), (R0, (0,)), (R0, [0]), (R1, 0),
            ((True, ()), 0), ((False, ()), 0), ([0, ()], 0), ((0, []), 0), ((0, ("a",)), 0), (None, 0), (0, R0), (0, 0),
        )
        for thing in things:
            self.refused(given, (), ("endless", (), (thing,)), "ring", 0)
            self.refused(given, (), ("endless", (), ((R0, 0), thing, None)), "ring", 1)

    def test_the_order_of_refusals(self):
        given = small(put((X, ("of", Y)), (Y, ("of", X))))
        right, wrong = (R0, 0), (R0, 9)
        self.refused(given, (), ("endless", (None,), ()), "shape", 0)
        self.refused(given, (), ("endless", (None,), (wrong,)), "case", 0)
        self.refused(given, (), ("endless", (R0, None), (wrong,)), "case", 1)
        self.refused(given, (), ("endless", (R0,), (right, wrong)), "ring", 1)
        self.refused(given, (), ("endless", (R0,), (right, right)), "source", 0)
        self.refused(given, (), ("endless", (R0,), (right, (R0, 1))), "grows", 0)
        self.refused(COUNTING, (), ("end", (R0, None)), "case", 1)

    def test_truths_for_numbers(self):
        given = small(put((X, ("plus", X, 1)), (X, ("plus", X, 1))), put((X, ("plus", X, 1))))
        self.refused(given, (), ("endless", ((True, ()),), ((R0, 0),)), "case", 0)
        self.refused(given, (), ("endless", (), (((True, ()), 0),)), "ring", 0)
        self.refused(given, (), ("endless", (), ((R0, True),)), "ring", 0)


if __name__ == "__main__":
    unittest.main()
