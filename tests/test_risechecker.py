import unittest

from onlyrise.errors import NoPaper
from onlyrise.rising import rising
from onlyrise.risechecker import high_of, lets_rising, low_of, pairs_of
from tests import samples
from tests.rules import L, M, NOTHING, X, Y, Z, ask, just, n, program, put, refusal, small
from tests.samples import OTHER_THINGS, same
from tests.test_trees import with_leaves

C, S = ("c",), ("s",)
CLASH = ("clash", 1, 0)
NONE = ("covers", ())


class Pairs(unittest.TestCase):
    def test_of_one_to_eight_leaves(self):
        for many in range(1, 9):
            told = pairs_of(with_leaves(many))
            self.assertTrue(same(told, [(i, j) for i in range(many) for j in range(many) if i != j]))
        self.assertEqual(pairs_of(with_leaves(3)), [(0, 1), (0, 2), (1, 0), (1, 2), (2, 0), (2, 1)])

    def test_told_lists_are_the_askers_own(self):
        pairs_of(with_leaves(2)).clear()
        self.assertEqual(len(pairs_of(with_leaves(2))), 2)


class LowAndHigh(unittest.TestCase):
    def low(self, given, k, i, j, told):
        self.assertTrue(same(low_of(given, k, i, j), told), (i, j))

    def high(self, given, k, i, j, told):
        self.assertTrue(same(high_of(given, k, i, j), told), (i, j))

    def test_of_both_paths(self):
        given = small(NOTHING, ask(Y, 2, ask(L, 3, NOTHING, ask(X, 1, NOTHING, NOTHING)), ask(M, 5, NOTHING, NOTHING)))
        # Leaves: 0 is Y and L, 1 is Y and X, 2 is Y, 3 is M, 4 is nothing.
        for i, j, told in ((0, 1, ((L, 3), (X, 1), (Y, 2))), (1, 0, ((L, 3), (X, 1), (Y, 2))), (2, 0, ((L, 3), (Y, 2))),
                           (2, 3, ((M, 5), (Y, 2))), (3, 4, ((M, 5),)), (4, 3, ((M, 5),)), (4, 2, ((Y, 2),)), (2, 4, ((Y, 2),)),
                           (0, 3, ((L, 3), (M, 5), (Y, 2)))):
            self.low(given, 1, i, j, told)
            self.high(given, 1, i, j, told)

    def test_things_asked_twice(self):
        given = small(ask(X, 2, ask(X, 5, NOTHING, NOTHING), ask(X, 1, NOTHING, NOTHING)))
        self.low(given, 0, 0, 1, ((X, 5),))
        self.low(given, 0, 1, 0, ((X, 5),))
        self.low(given, 0, 1, 2, ((X, 2),))
        self.low(given, 0, 2, 3, ((X, 1),))
        heads = (("s", 0, samples.SET), ("w", 0, samples.DIAMOND), ("l", 0, samples.LOW))
        s, w = ("s",), ("w",)
        rule = ask(s, ("a",), ask(s, ("c", "b"), ask(w, "left", ask(w, "right", NOTHING, NOTHING), NOTHING), NOTHING), NOTHING)
        given = (("a",), heads, (rule,))
        self.low(given, 0, 0, 4, ((s, ("c", "a", "b")), (w, "top")))
        self.low(given, 0, 4, 1, ((s, ("c", "a", "b")), (w, "left")))
        given = small(ask(L, 5, ask(L, 2, NOTHING, NOTHING), NOTHING))
        self.low(given, 0, 0, 1, ((L, 2),))
        self.low(given, 0, 2, 1, ((L, 5),))

    def test_high_by_each_sort_of_term(self):
        for term, height in ((("just", 7), 7), (("just", 0), 0), (("of", X), 3), (("plus", X, 4), 7), (("sum", X, Y), 5),
                             (("meet", X, Y), 2), (("of", Z), 0), (("plus", Z, 1), 1), (("sum", X, Z), 3), (("meet", X, Z), 0)):
            given = small(ask(X, 3, ask(Y, 2, put((Z, term)), NOTHING), put(just(Z, 9))))
            self.low(given, 0, 2, 0, ((X, 3), (Y, 2)))
            self.high(given, 0, 2, 0, ((X, 3), (Y, 2)) + (((Z, height),) if height else ()))
            # The puts are those of j, not those of i.
            self.high(given, 0, 0, 1, ((X, 3), (Y, 2)))
        for term, height in ((("of", M), 4), (("plus", M, 1), 5), (("sum", M, M), 8), (("meet", M, L), 6), (("just", None), 6),
                             (("just", 3), 3)):
            given = small(ask(M, 4, ask(L, 6, put((L, term)), NOTHING), NOTHING))
            self.high(given, 0, 2, 0, ((L, min(6, height)), (M, 4)))
        given = small(ask(X, 1, put((L, ("plus", M, 1)), (M, ("sum", L, M))), NOTHING))
        self.high(given, 0, 1, 0, ((X, 1),))

    def test_all_puts_by_lows_heights(self):
        given = small(ask(X, 3, put((Y, ("of", X)), (Z, ("of", Y)), (X, ("plus", X, 1))), NOTHING))
        self.high(given, 0, 1, 0, ((X, 4), (Y, 3)))
        given = small(ask(X, 3, put(just(Y, 5), just(Y, 2), (Y, ("of", X))), NOTHING))
        self.high(given, 0, 1, 0, ((X, 3), (Y, 5)))

    def test_joined_with_what_is_there(self):
        given = small(ask(X, 3, put(just(X, 2)), NOTHING))
        self.high(given, 0, 1, 0, ((X, 3),))
        given = program(ask(S, ("a",), put(just(S, ("b",))), NOTHING))
        self.high(given, 0, 1, 0, ((S, ("a", "b")),))

    def test_marks_stay_as_they_are_written(self):
        given = program(ask(n("A"), 2, ask(n("a"), 3, put((n("B"), ("plus", n("A"), 1)), (n("b"), ("of", n("a")))), NOTHING), NOTHING))
        self.low(given, 0, 0, 1, ((n("A"), 2), (n("a"), 3)))
        self.high(given, 0, 2, 0, ((n("A"), 2), (n("B"), 3), (n("a"), 3), (n("b"), 3)))

    def test_least_heights_are_left_out(self):
        given = program(ask(n("A"), 1, put(just(C, "raw"), just(S, ()), just(("w", "A", "b"), "root")), NOTHING))
        self.high(given, 0, 1, 0, ((n("A"), 1),))


class Checked(unittest.TestCase):
    def looked_at(self, given, pair, entry, word):
        """The entry stands at the pair of the one rule; those of all other pairs are made. None as word: let by."""
        made = rising(given)
        self.assertEqual(made[0], "rises")
        place = pairs_of(given[2][0]).index(pair)
        paper = (made[1][0][:place] + (entry,) + made[1][0][place + 1:],)
        told = (None, True) if word is None else (NoPaper, (word, place))
        self.assertEqual(refusal(lets_rising, given, paper), told, (given[2], pair, entry))

    def two(self, no, yes, asked, entry, word, heads=None):
        """The entry of (1, 0), where i has the puts no behind the asking with no, j those of yes behind the one with yes."""
        rule = ask(asked[0], asked[1], put(*yes), put(*no))
        given = small(rule) if heads is None else program(rule, heads=heads)
        paper = ((CLASH, entry),)
        told = (None, True) if word is None else (NoPaper, (word, 1))
        self.assertEqual(refusal(lets_rising, given, paper), told, (no, yes, asked, entry))


class Clashes(Checked):
    def test_on_the_path_of_j(self):
        given = small(ask(X, 3, NOTHING, NOTHING))
        self.looked_at(given, (0, 1), ("clash", 1, 0), None)
        self.looked_at(given, (0, 1), ("clash", 1, 1), "clash")
        self.looked_at(given, (0, 1), ("clash", 0, 0), "clash")
        self.looked_at(given, (1, 0), ("clash", 1, 0), "clash")
        self.looked_at(given, (1, 0), ("clash", 0, 0), "clash")

    def test_at_least_so_high(self):
        for high, low, word in ((3, 3, None), (4, 3, None), (2, 3, "clash")):
            given = small(ask(Y, 1, ask(X, high, NOTHING, NOTHING), ask(X, low, NOTHING, NOTHING)))
            # Of (0, 3) the askings with no on the path of j are those of Y and of X.
            self.looked_at(given, (0, 3), ("clash", 1, 1), word)
            self.looked_at(given, (0, 3), ("clash", 1, 0), None)
            self.looked_at(given, (0, 3), ("clash", 1, 2), "clash")

    def test_by_the_askings_of_j_too(self):
        # The path of j alone can not be walked.
        given = small(ask(Y, 1, ask(X, 3, ask(X, 2, NOTHING, NOTHING), NOTHING), NOTHING))
        self.looked_at(given, (2, 1), ("clash", 1, 0), None)
        self.looked_at(given, (3, 1), ("clash", 1, 0), None)
        self.looked_at(given, (3, 1), ("clash", 0, 0), "clash")

    def test_on_the_path_of_i_by_itself_alone(self):
        given = small(ask(Y, 1, ask(X, 3, ask(X, 2, NOTHING, NOTHING), NOTHING), NOTHING))
        # Leaf 1 is X at least 3, and not at least 2; leaf 2 is X not at least 3.
        self.looked_at(given, (1, 0), ("clash", 0, 0), None)
        self.looked_at(given, (1, 2), ("clash", 0, 0), None)
        self.looked_at(given, (1, 3), ("clash", 0, 0), None)
        self.looked_at(given, (1, 3), ("clash", 0, 1), "clash")
        # What j has at least so high is not what i has.
        self.looked_at(given, (2, 0), ("clash", 0, 0), "clash")
        self.looked_at(given, (2, 1), ("clash", 0, 0), "clash")
        self.looked_at(given, (3, 0), ("clash", 0, 0), "clash")

    def test_each_order(self):
        for order, high, low, word in ((samples.LOW, 3, 5, None), (samples.LOW, 5, 3, "clash"), (samples.CHAIN, "checked", "done", None),
                                       (samples.CHAIN, "done", "checked", "clash"), (samples.SET, ("a", "b"), ("b",), None),
                                       (samples.SET, ("a",), ("b",), "clash"), (samples.DIAMOND, "top", "left", None),
                                       (samples.DIAMOND, "left", "right", "clash"), (samples.NEWER, (2, "raw"), (1, "done"), None),
                                       (samples.ROW, (2, ()), (1, ("a",)), "clash")):
            given = program(ask(("k",), 1, ask(("h",), high, NOTHING, NOTHING), ask(("h",), low, NOTHING, NOTHING)),
                            heads=(("h", 0, order), ("k", 0, samples.NUM)))
            self.looked_at(given, (0, 3), ("clash", 1, 1), word)

    def test_of_things_as_they_are_written(self):
        given = program(ask(C, "done", ask(n("A"), 1, NOTHING, NOTHING), ask(n("a"), 1, NOTHING, NOTHING)))
        self.looked_at(given, (0, 3), ("clash", 1, 1), "clash")
        self.looked_at(given, (0, 3), ("clash", 1, 0), None)


class Just(Checked):
    def test_high_at_least_so_high(self):
        for height, yes, word in ((2, (just(Y, 2),), None), (2, (just(Y, 3),), None), (2, (just(Y, 1),), "reason"), (2, (), "reason"),
                                  (0, (), None), (3, ((Y, ("of", X)),), None), (4, ((Y, ("of", X)),), "reason"),
                                  (7, ((Y, ("plus", X, 4)),), None), (2, (just(Z, 2),), "reason"),
                                  (2, (just(Z, 1), just(Y, 2)), None)):
            self.two((just(Y, height),), yes, (X, 3), ("covers", (("just",),)), word)

    def test_by_low_alone(self):
        self.two((just(X, 3),), (), (X, 3), ("covers", (("just",),)), None)
        self.two((just(X, 4),), (), (X, 3), ("covers", (("just",),)), "reason")

    def test_of_other_terms(self):
        for term in (("of", Y), ("plus", Y, 0), ("meet", Y, Y), ("sum", Y, Y)):
            self.two(((Y, term),), (just(Y, 5),), (X, 3), ("covers", (("just",),)), "reason")

    def test_each_put_in_order(self):
        no = (just(Y, 1), just(Z, 2))
        for yes, word in (((just(Y, 1), just(Z, 2)), None), ((just(Y, 1),), "reason"), ((just(Z, 2),), "reason")):
            self.two(no, yes, (X, 1), ("covers", (("just",), ("just",))), word)


class Like(Checked):
    def like(self, term, other, word, thing=Y, number=0, beside=()):
        self.two(((thing, term),), ((thing, other),) + beside, (X, 3), ("covers", (("like", number),)), word)

    def test_of_and_plus_of_num(self):
        for term, other, word in ((("of", Z), ("of", Z), None), (("of", Z), ("of", X), "reason"),
                                  (("of", Z), ("plus", Z, 0), None), (("plus", Z, 0), ("of", Z), None), (("of", Z), ("plus", Z, 4), None),
                                  (("plus", Z, 4), ("plus", Z, 4), None), (("plus", Z, 3), ("plus", Z, 4), None),
                                  (("plus", Z, 5), ("plus", Z, 4), "reason"), (("plus", Z, 1), ("of", Z), "reason"),
                                  (("plus", Z, 1), ("plus", X, 1), "reason"), (("plus", Z, 1), ("sum", Z, Z), "reason"),
                                  (("of", Z), ("meet", Z, Z), "reason"), (("of", Z), ("just", 1000), "reason")):
            self.like(term, other, word)

    def test_of_and_plus_of_low(self):
        for term, other, word in ((("of", M), ("of", M), None), (("plus", M, 1), ("of", M), None), (("of", M), ("plus", M, 1), "reason"),
                                  (("plus", M, 4), ("plus", M, 4), None), (("plus", M, 4), ("plus", M, 3), None),
                                  (("plus", M, 4), ("plus", M, 5), "reason"), (("of", M), ("plus", M, 0), None),
                                  (("of", M), ("of", L), "reason")):
            self.like(term, other, word, thing=L)

    def test_of_other_orders(self):
        heads = (("x", 0, samples.NUM), ("p", 0, samples.ROW), ("q", 0, samples.ROW))
        p, q = ("p",), ("q",)
        for source, word in ((q, None), (p, "reason")):
            self.two(((p, ("of", q)),), ((p, ("of", source)),), (X, 3), ("covers", (("like", 0),)), word, heads=heads)

    def test_sums_and_meets(self):
        for sort, other in (("sum", "meet"), ("meet", "sum")):
            for things, word in (((Y, Z), None), ((Z, Y), None), ((Y, Y), "reason"), ((Z, Z), "reason"), ((Y, X), "reason"),
                                 ((X, Z), "reason")):
                self.like((sort, Y, Z), (sort,) + things, word)
            self.like((sort, Y, Y), (sort, Y, Y), None)
            self.like((sort, Y, Y), (sort, Y, Z), "reason")
            self.like((sort, Y, Z), (other, Y, Z), "reason")
            self.like((sort, Y, Z), ("of", Y), "reason")
            self.like((sort, Y, Z), ("just", 99), "reason")
            self.like((sort, L, M), (sort, M, L), None, thing=L)

    def test_justs(self):
        self.like(("just", 2), ("just", 2), None)
        self.like(("just", 2), ("just", 3), None)
        self.like(("just", 2), ("just", 1), "reason")
        self.like(("just", 2), ("of", X), "reason")
        self.like(("just", 2), ("just", 1), None, thing=L)
        self.like(("just", 2), ("just", 3), "reason", thing=L)
        self.like(("just", None), ("just", 3), None, thing=L)
        self.like(("just", 3), ("just", None), "reason", thing=L)

    def test_the_puts_number(self):
        beside = (just(Z, 1), (Y, ("of", X)))
        self.like(("of", X), ("of", Y), "reason", number=0, beside=beside)
        self.like(("of", X), ("of", Y), "reason", number=1, beside=beside)
        self.like(("of", X), ("of", Y), None, number=2, beside=beside)
        for number in (3, samples.TWENTY, -1, -3, True, False, None, "2", (2,), [2]):
            self.like(("of", X), ("of", X), "reason", number=number, beside=beside)

    def test_the_same_thing(self):
        self.two(((Y, ("of", X)),), ((Z, ("of", X)),), (X, 3), ("covers", (("like", 0),)), "reason")
        heads = (("x", 0, samples.NUM), ("n", 1, samples.NUM))
        for thing, word in ((n("A"), None), (n("a"), "reason"), (n("B"), "reason")):
            self.two(((n("A"), ("of", X)),), ((thing, ("of", X)),), (X, 3), ("covers", (("like", 0),)), word, heads=heads)
            self.two(((X, ("of", n("A"))),), ((X, ("of", thing)),), (X, 3), ("covers", (("like", 0),)), word, heads=heads)


class Own(Checked):
    def test_own(self):
        for thing, term, word in ((Y, ("of", Y), None), (Y, ("plus", Y, 0), None), (Y, ("plus", Y, 1), "reason"), (Y, ("of", Z), "reason"),
                                  (Y, ("plus", Z, 0), "reason"), (L, ("of", L), None), (L, ("plus", L, 0), None), (L, ("plus", L, 9), None),
                                  (L, ("plus", M, 9), "reason"), (L, ("of", M), "reason"), (Y, ("meet", Y, Y), "reason"),
                                  (Y, ("meet", Y, Z), "reason"), (Y, ("just", 0), "reason"), (L, ("sum", L, L), "reason"),
                                  (L, ("meet", L, L), "reason")):
            self.two(((thing, term),), (), (X, 3), ("covers", (("own",),)), word)

    def test_of_other_orders(self):
        heads = (("x", 0, samples.NUM), ("p", 1, samples.NEWER))
        for source, word in ((("p", "A"), None), (("p", "a"), "reason"), (("p", "B"), "reason")):
            self.two(((("p", "A"), ("of", source)),), (), (X, 3), ("covers", (("own",),)), word, heads=heads)


class Under(Checked):
    def under(self, term, bounds, yes, word, asked=(X, 3), thing=Y):
        self.two(((thing, term),), yes, asked, ("covers", (("under", bounds),)), word)

    def test_of_and_plus(self):
        for term, height in ((("of", X), 2), (("plus", X, 0), 2), (("plus", X, 4), 6)):
            self.under(term, ((0, 0),), (just(Y, height),), None)
            self.under(term, ((0, 0),), (just(Y, height + 1),), None)
            self.under(term, ((0, 0),), (just(Y, height - 1),), "reason")
            self.under(term, ((0, 0),), (just(Z, height),), "reason")
        # The least of all is reached by anything.
        self.under(("of", X), ((0, 0),), (), None, asked=(X, 1))
        self.under(("plus", X, 1), ((0, 0),), (), "reason", asked=(X, 1))
        self.under(("plus", X, 3), ((0, 0),), ((Y, ("plus", X, 2)),), None)
        self.under(("plus", X, 4), ((0, 0),), ((Y, ("plus", X, 2)),), "reason")

    def test_sum_and_meet(self):
        for term, height in ((("sum", X, X), 4), (("meet", X, X), 2)):
            self.under(term, ((0, 0), (0, 0)), (just(Y, height),), None)
            self.under(term, ((0, 0), (0, 0)), (just(Y, height - 1),), "reason")
            self.under(term, ((0, 0),), (just(Y, height),), "reason")
            self.under(term, ((0, 0), (0, 0), (0, 0)), (just(Y, height),), "reason")
            self.under((term[0], X, Z), ((0, 0), (0, 0)), (just(Y, height),), "reason")
            self.under((term[0], Z, X), ((0, 0), (0, 0)), (just(Y, height),), "reason")

    def test_low(self):
        # Not so high as 3 is a number of 4 or more, or None.
        self.under(("of", L), ((0, 0),), (just(M, 4),), None, asked=(L, 3), thing=M)
        self.under(("of", L), ((0, 0),), (just(M, 3),), None, asked=(L, 3), thing=M)
        self.under(("of", L), ((0, 0),), (just(M, 5),), "reason", asked=(L, 3), thing=M)
        self.under(("plus", L, 2), ((0, 0),), (just(M, 6),), None, asked=(L, 3), thing=M)
        self.under(("plus", L, 2), ((0, 0),), (just(M, 7),), "reason", asked=(L, 3), thing=M)
        self.under(("sum", L, L), ((0, 0), (0, 0)), (just(M, 8),), None, asked=(L, 3), thing=M)
        self.under(("sum", L, L), ((0, 0), (0, 0)), (just(M, 9),), "reason", asked=(L, 3), thing=M)
        self.under(("meet", L, L), ((0, 0), (0, 0)), (just(M, 4),), None, asked=(L, 3), thing=M)
        self.under(("of", L), ((0, 0),), (), "reason", asked=(L, 3), thing=M)


class UnderSides(Checked):
    # Leaves: 0 is X, Z; 1 is X, not Z; 2 is not X.
    def paper(self, puts, others, entry):
        rule = ask(X, 3, ask(Z, 5, put(*others), put(*others)), put(*puts))
        entries = [CLASH, CLASH, None, CLASH, None, entry]
        reasons = tuple(("like", m) for m in range(len(others)))
        entries[2] = ("covers", reasons)
        entries[4] = ("covers", reasons[:len(puts)])
        return (small(rule), (tuple(entries),))

    def under(self, term, others, bounds, word, thing=Y):
        # Of (2, 0) the first of the others is like it; of (2, 1) the bounds are looked at.
        given, paper = self.paper(((thing, term),), ((thing, term),) + others, ("covers", (("under", bounds),)))
        told = (None, True) if word is None else (NoPaper, (word, 5))
        self.assertEqual(refusal(lets_rising, given, paper), told, (term, others, bounds))

    def test_of_one_side_and_of_the_other(self):
        self.under(("of", X), (just(Y, 2),), ((0, 0),), None)
        self.under(("of", X), (just(Y, 2),), ((1, 0),), "reason")
        self.under(("of", Z), (just(Y, 4),), ((1, 0),), None)
        self.under(("of", Z), (just(Y, 3),), ((1, 0),), "reason")
        self.under(("of", Z), (just(Y, 4),), ((0, 0),), "reason")
        self.under(("of", Z), (just(Y, 4),), ((1, 1),), "reason")
        self.under(("of", Z), (just(Y, 4),), ((1, -1),), "reason")
        self.under(("of", X), (just(Y, 2),), ((0, -1),), "reason")

    def test_of_both_sides(self):
        for sort, height in (("sum", 6), ("meet", 2)):
            for things, bounds in (((X, Z), ((0, 0), (1, 0))), ((Z, X), ((1, 0), (0, 0)))):
                self.under((sort,) + things, (just(Y, height),), bounds, None)
                self.under((sort,) + things, (just(Y, height - 1),), bounds, "reason")
                self.under((sort,) + things, (just(Y, 9),), bounds[::-1], "reason")
                self.under((sort,) + things, (just(Y, 9),), bounds[:1], "reason")
                self.under((sort,) + things, (just(Y, 9),), bounds[:1] * 2, "reason")

    def test_the_number_of_the_asking(self):
        # Leaf 2 is X, not Z, not Y; leaf 3 is not X.
        others = put((X, ("of", Z)), (X, ("of", Y)), just(X, 9))
        given = small(ask(X, 3, ask(Z, 5, others, ask(Y, 4, others, others)), put((X, ("of", Z)), (X, ("of", Y)))))
        for one, other, word in (((1, 0), (1, 1), None), ((1, 1), (1, 0), "reason"), ((1, 0), (1, 0), "reason"), ((1, 1), (1, 1), "reason"),
                                 ((1, 0), (1, 2), "reason"), ((0, 0), (1, 1), "reason"), ((1, 0), (0, 1), "reason")):
            self.looked_at(given, (3, 2), ("covers", (("under", (one,)), ("under", (other,)))), word)

    def test_things_of_other_kinds(self):
        for bounds in ((), [(0, 0)], ([0, 0],), ((False, 0),), ((0, False),), ((2, 0),), ((-1, 0),), ((0, 0, 0),), ((0,),), (0, 0), None,
                       0, "00", (None,), ((None, 0),), ((0, None),), (("0", 0),), ((0, (0,)),), (((0,), 0),), ((0, 0), (0, 0))):
            self.under(("of", X), (just(Y, 2),), bounds, "reason")
        for bounds in (((True, 0),), ((1, False),), ([1, 0],)):
            self.under(("of", Z), (just(Y, 4),), bounds, "reason")

    def test_another_word(self):
        for word in ("Under", "just", "own", "like", "over", "", None, 0, ("under",)):
            given, paper = self.paper(((Y, ("of", X)),), ((Y, ("of", X)), just(Y, 2)), ("covers", ((word, ((0, 0),)),)))
            self.assertEqual(refusal(lets_rising, given, paper), (NoPaper, ("reason", 5)))

    def test_a_just_has_no_bounds(self):
        self.under(("just", 2), (just(Y, 5),), (), "reason")
        self.under(("just", 2), (just(Y, 5),), ((0, 0),), "reason")


class TwoBoundsOfOneThing(Checked):
    def test_each_place_has_its_own(self):
        # X is asked twice on the path of i, with no: less than 5, and less than 3.
        rule = ask(X, 5, put(just(Y, 6)), ask(X, 3, put(just(Y, 6)), put((Y, ("sum", X, X)))))
        given = small(rule)
        for bounds, word in ((((0, 0), (0, 1)), None), (((0, 1), (0, 0)), None), (((0, 1), (0, 1)), None), (((0, 0), (0, 0)), "reason")):
            entry = ("covers", (("under", bounds),))
            self.looked_at(given, (2, 0), entry, word)
            self.looked_at(given, (2, 1), entry, word)


class NoneBelow(Checked):
    def test_orders_without_a_height_below(self):
        for order, asked, height, word in (
                (samples.SET, ("a", "b"), ("c", "a", "b"), "reason"), (samples.SET, ("a",), ("c", "b"), None),
                (samples.SET, ("a",), ("c",), "reason"), (samples.CHAIN, "checked", "done", None), (samples.CHAIN, "checked", "raw", "reason"),
                (samples.DIAMOND, "top", "top", "reason"), (samples.DIAMOND, "left", "right", None), (samples.DIAMOND, "left", "left", "reason"),
                (samples.NEWER, (1, "raw"), (5, "raw"), "reason"), (samples.ROW, (1, ()), (9, ("c", "a", "b")), "reason"),
                (("newer", samples.NUM), (0, 1), (5, 5), "reason")):
            heads = (("p", 0, order), ("q", 0, order))
            p, q = ("p",), ("q",)
            self.two(((q, ("of", p)),), (just(q, height),), (p, asked), ("covers", (("under", ((0, 0),)),)), word, heads=heads)

    def test_meets_of_sets_and_chains(self):
        heads = (("p", 1, samples.SET), ("q", 0, samples.SET))
        q, one, other = ("q",), ("p", "A"), ("p", "b")
        rule = ask(one, ("a",), put(just(q, ("c",))), ask(other, ("b",), put(just(q, ("c",))), put((q, ("meet", one, other)))))
        given = program(rule, heads=heads)
        self.looked_at(given, (2, 0), ("covers", (("under", ((0, 0), (0, 1))),)), None)
        self.looked_at(given, (2, 0), ("covers", (("under", ((0, 1), (0, 0))),)), "reason")
        given = program(ask(one, ("a",), put(just(q, ("b",))), ask(other, ("b",), put(just(q, ("c",))), put((q, ("meet", one, other))))), heads=heads)
        self.assertEqual(rising(given)[0], "falls")


class Papers(Checked):
    def lets(self, given, paper):
        self.assertIs(lets_rising(given, paper), True)

    def refused(self, given, paper, word, number):
        self.assertEqual(refusal(lets_rising, given, paper), (NoPaper, (word, number)), paper)

    GIVEN = small(NOTHING, ask(X, 3, put(just(Y, 2)), put(just(Y, 1))), ask(X, 3, NOTHING, NOTHING))
    PAPER = ((), (CLASH, ("covers", (("just",),))), (CLASH, NONE))

    def test_let_by(self):
        self.lets(small(), ())
        self.lets(small(NOTHING), ((),))
        self.lets(self.GIVEN, self.PAPER)

    def test_form(self):
        for thing in OTHER_THINGS + (self.PAPER[:2], self.PAPER + ((),), list(self.PAPER), (), ((), (), (), ())):
            self.refused(self.GIVEN, thing, "form", -1)
        for k in range(3):
            for thing in (None, [], list(self.PAPER[k]), self.PAPER[k] + (NONE,), 0, "ab", True, self.PAPER[k] + ((), ())):
                self.refused(self.GIVEN, self.PAPER[:k] + (thing,) + self.PAPER[k + 1:], "form", k)
        self.refused(self.GIVEN, ((), (), ()), "form", 1)
        self.refused(self.GIVEN, ((), self.PAPER[1], ()), "form", 2)
        self.refused(small(), [], "form", -1)
        self.refused(small(), ((),), "form", -1)
        self.refused(small(), None, "form", -1)

    def test_forms_of_all_rules_go_ahead_of_entries(self):
        self.refused(self.GIVEN, ((), (None, None), ()), "form", 2)
        self.refused(self.GIVEN, (None, (None, None), ()), "form", 0)

    def test_entries_are_counted_through_all_rules(self):
        for number in range(4):
            for entry, word in ((None, "entry"), (("clash", 1, 7), "clash")):
                entries = [list(row) for row in self.PAPER]
                entries[1 + number // 2][number % 2] = entry
                self.refused(self.GIVEN, tuple(tuple(row) for row in entries), word, number)
        self.refused(self.GIVEN, self.PAPER[:1] + ((CLASH, ("covers", (("own",),))),) + self.PAPER[2:], "reason", 1)
        self.refused(self.GIVEN, self.PAPER[:1] + ((CLASH, ("covers", (("own",),))), (None, None)), "reason", 1)
        self.refused(self.GIVEN, self.PAPER[:1] + ((("clash", 0, 0), None), (None, None)), "clash", 0)

    def test_entry(self):
        things = OTHER_THINGS + (
            ("clash",), ("clash", 1), ("clash", 1, 0, 0), ["clash", 1, 0], ("clash", True, 0), ("clash", False, 0), ("clash", 1, True),
            ("clash", 1, False), ("clash", 2, 0), ("clash", -1, 0), ("clash", 1, -1), ("clash", 1, None), ("clash", None, 0),
            ("clash", "1", 0), ("clash", (1,), 0), ("clash", 1, [0]), ("Clash", 1, 0), (("clash",), 1, 0),
            ("covers",), ("covers", (), ()), ("covers", ()), ("covers", (("just",), ("just",))), ("covers", [("just",)]),
            ["covers", (("just",),)], ("covers", None), ("covers", 1), ("covers", "j"), ("Covers", (("just",),)), ("just",), ("own",),
            (True, (("just",),)), samples.nested((), 28), ("covers", (("just",),), ()), ("covers", (("just",),), 0, 0),
        )
        for thing in things:
            self.refused(self.GIVEN, self.PAPER[:1] + ((CLASH, thing),) + self.PAPER[2:], "entry", 1)
        self.refused(self.GIVEN, self.PAPER[:2] + ((CLASH, ("covers", (("just",),))),), "entry", 3)

    def test_reasons_that_are_none_by_kind(self):
        things = OTHER_THINGS + (
            ("just", 0), ["just"], "just", ("just", ()), (("just",),), ("Just",), ("own", 0), ["own"], ("like",), ("like", 0, 0), ["like", 0],
            ("under",), ("under", (), ()), ["under", ()], ("under", None), (True, 0), (None, 0), (["like"], 0), ("likes", 0),
        )
        given = small(ask(X, 3, put(just(Y, 2)), put(just(Y, 1))))
        self.lets(given, ((CLASH, ("covers", (("like", 0),))),))
        for thing in things:
            self.refused(given, ((CLASH, ("covers", (thing,))),), "reason", 1)
        given = small(ask(X, 3, put(just(Y, 2)), put(just(Y, 1), just(Y, 2))))
        for thing in things:
            self.refused(given, ((CLASH, ("covers", (("just",), thing))),), "reason", 1)
            self.refused(given, ((CLASH, ("covers", (thing, ("just",)))),), "reason", 1)

    def test_many_things(self):
        self.refused(self.GIVEN, self.PAPER[:1] + ((CLASH, ("covers", (tuple([0] * 9000),))),) + self.PAPER[2:], "reason", 1)
        self.refused(self.GIVEN, tuple([()] * 9000), "form", -1)

    def test_no_standing_is_looked_at(self):
        # Rules that no standing of theirs ever reaches are looked at all the same.
        given = small(ask(X, 3, put(just(X, 1)), put(just(X, 9))))
        self.refused(given, ((CLASH, ("covers", (("just",),))),), "reason", 1)


if __name__ == "__main__":
    unittest.main()
