import unittest

from onlyrise.errors import NoProgram
from onlyrise.trees import cases_of, leaves_of, marks_of, named, right_program
from tests import samples
from tests.rules import GROUND, HEADS, NAMES, NOTHING, ask, just, n, program, put, refusal
from tests.samples import LOW, NUM, OTHER_THINGS, TWENTY, same

C, S = ("c",), ("s",)


def low(*words):
    return ("low",) + words


def with_leaves(many):
    """A tree of so many leaves, as shallow as can be."""
    if many == 1:
        return NOTHING
    return ask(n("a"), many, with_leaves(many - many // 2), with_leaves(many // 2))


def chain_of(deep):
    """A tree with so many trees within one another, itself and a leaf counted."""
    tree = NOTHING
    for k in range(deep - 1):
        tree = ask(n("a"), k + 1, NOTHING, tree)
    return tree


def lists_for_tuples(thing):
    """The thing with one of its tuples, each in turn, as a list."""
    if not isinstance(thing, tuple):
        return []
    found = [list(thing)]
    for place, inner in enumerate(thing):
        for other in lists_for_tuples(inner):
            found.append(thing[:place] + (other,) + thing[place + 1:])
    return found


class Checked(unittest.TestCase):
    def right(self, *rules):
        self.assertIs(right_program(program(*rules)), True, rules)

    def wrong(self, *rules, number=0):
        self.refused(program(*rules), number)

    def refused(self, thing, number):
        self.assertEqual(refusal(right_program, thing), (NoProgram, (number,)), thing)

    def right_put(self, thing, term):
        self.right(put((thing, term)))

    def wrong_put(self, thing, term):
        self.wrong(put((thing, term)))


class Terms(Checked):
    def test_just(self):
        for thing, order in ((n("a"), NUM), (low("a"), LOW), (C, samples.CHAIN), (S, samples.SET),
                             (("w", "a", "b"), samples.DIAMOND)):
            for height in samples.some_heights(order):
                self.right_put(thing, ("just", height))
        self.right_put(n("a"), ("just", TWENTY))
        for thing, height in ((n("a"), None), (n("a"), True), (n("a"), -1), (n("a"), "raw"), (low("a"), False),
                              (low("a"), "raw"), (C, "top"), (C, 0), (S, "a"), (S, ["a"]), (S, ("a", "c")),
                              (("w", "a", "b"), "raw"), (("w", "a", "b"), ())):
            self.wrong_put(thing, ("just", height))
        for term in (("just",), ("just", 1, 1), ("Just", 1), ["just", 1], (True, 1), "just", ("just", [1])):
            self.wrong_put(n("a"), term)

    def test_just_of_rows_and_newer_ones(self):
        for order in samples.ORDERS:
            ground = (("a",), (("h", 0, order),))
            for height in samples.some_heights(order, 1)[:9]:
                self.assertIs(right_program(ground + ((put((("h",), ("just", height))),),)), True)
            self.refused(ground + ((put((("h",), ("just", "*"))),),), 0)

    def test_of(self):
        for thing, source in ((n("a"), n("A")), (n("A"), n("A")), (low("a"), low("B")), (C, C), (S, S),
                              (("w", "a", "A"), ("w", "B", "b"))):
            self.right_put(thing, ("of", source))
        for thing, source in ((n("a"), low("a")), (low("a"), n("a")), (C, S), (S, C), (C, n("a")),
                              (("w", "a", "a"), C)):
            self.wrong_put(thing, ("of", source))
        for term in (("of",), ("of", n("a"), 0), ("of", n("a"), n("a")), ("of", n()), ("of", n("a", "b")),
                     ("of", "n"), ("of", ["n", "a"]), ("of", n("c")), ("of", n("G")), ("of", ("x", "a")), ("of", None)):
            self.wrong_put(n("a"), term)

    def test_an_order_is_its_own_whatever_the_head(self):
        heads = (("p", 0, samples.TALL), ("q", 1, samples.TALL), ("r", 0, ("chain", ("a", "b"))),
                 ("s", 0, ("chain", ("b", "a"))), ("t", 0, ("newer", ("chain", ("a", "b")))))
        for thing, source, number in ((("p",), ("q", "A"), None), (("q", "a"), ("p",), None), (("r",), ("s",), 0),
                                      (("r",), ("t",), 0), (("t",), ("r",), 0), (("t",), ("t",), None)):
            rules = (put((thing, ("of", source))),)
            told = refusal(right_program, (("a",), heads, rules))
            self.assertEqual(told, (None, True) if number is None else (NoProgram, (0,)))

    def test_plus(self):
        for number in (0, 1, 999, 1000):
            self.right_put(n("a"), ("plus", n("A"), number))
            self.right_put(low("a"), ("plus", low("b"), number))
        for number in (1001, -1, True, False, None, "1", (1,), TWENTY, n("a")):
            self.wrong_put(n("a"), ("plus", n("A"), number))
            self.wrong_put(low("a"), ("plus", low("b"), number))
        for thing, source in ((n("a"), low("a")), (low("a"), n("a")), (C, C), (S, S), (("w", "a", "a"), ("w", "a", "a")),
                              (n("a"), C), (n("a"), n()), (n("a"), n("c")), (n("a"), ["n", "a"])):
            self.wrong_put(thing, ("plus", source, 1))
        for term in (("plus", n("a")), ("plus", n("a"), 1, 1), ("plus", 1, n("a")), ["plus", n("a"), 1], ("minus", n("a"), 1)):
            self.wrong_put(n("a"), term)

    def test_sum_and_meet(self):
        for sort in ("sum", "meet"):
            for one, other in ((n("a"), n("b")), (n("A"), n("A")), (n("B"), n("a"))):
                self.right_put(n("a"), (sort, one, other))
            self.right_put(low("A"), (sort, low("b"), low("A")))
            for one, other in ((n("a"), low("a")), (low("a"), n("a")), (n("a"), n()), (n("x"), n("a")), (n("a"), 1),
                               (n("a"), n("a", "a")), (["n", "a"], n("a")), (n("a"), ["n", "a"]), (None, n("a"))):
                self.wrong_put(n("a"), (sort, one, other))
            self.wrong_put(n("a"), (sort, n("a")))
            self.wrong_put(n("a"), (sort, n("a"), n("a"), n("a")))
            self.wrong_put(n("a"), [sort, n("a"), n("a")])
            self.wrong_put(low("a"), (sort, n("a"), n("a")))
            self.wrong_put(("w", "a", "a"), (sort, ("w", "a", "a"), ("w", "a", "a")))
        self.right_put(C, ("meet", C, C))
        self.right_put(S, ("meet", S, S))
        self.wrong_put(C, ("sum", C, C))
        self.wrong_put(S, ("sum", S, S))
        self.wrong_put(C, ("meet", S, S))
        self.wrong_put(n("a"), ("join", n("a"), n("a")))

    def test_rows_and_newer_ones_have_just_and_of_alone(self):
        for order in (samples.ROW, samples.NEWER, ("row", (NUM,)), ("newer", NUM), ("row", (LOW,)), samples.DIAMOND):
            ground = (("a",), (("h", 0, order),))
            for term, right in ((("of", ("h",)), True), (("plus", ("h",), 0), False),
                                (("sum", ("h",), ("h",)), False), (("meet", ("h",), ("h",)), False)):
                told = refusal(right_program, ground + ((put((("h",), term)),),))
                self.assertEqual(told, (None, True) if right else (NoProgram, (0,)), (order, term))


class Trees(Checked):
    def test_things_of_a_rule(self):
        for thing in (n("a"), n("b"), n("A"), n("F")):
            self.right(ask(thing, 1, NOTHING, NOTHING))
            self.right_put(thing, ("just", 1))
        for thing in (n(), n("a", "b"), n("c"), n("G"), n("AB"), n("*"), n(""), n(1), n(True), n(None), n(("a",)), n(["A"]),
                      ("x", "a"), ("A", "a"), (), "n", ("low",), ["n", "a"], None, 0, (("n",), "a"), (["n"], "a")):
            self.wrong(ask(thing, 1, NOTHING, NOTHING))
            self.wrong_put(thing, ("just", 1))

    def test_askings_heights(self):
        for thing, order in ((n("a"), NUM), (low("a"), LOW), (C, samples.CHAIN), (S, samples.SET),
                             (("w", "a", "b"), samples.DIAMOND)):
            heights = samples.some_heights(order)
            least = "root" if order == samples.DIAMOND else heights[0]
            for height in heights:
                if height == least:
                    self.wrong(ask(thing, height, NOTHING, NOTHING))
                else:
                    self.right(ask(thing, height, NOTHING, NOTHING))
            for height in ("*", True, -1, ["a"], ("z",), (None,)):
                self.wrong(ask(thing, height, NOTHING, NOTHING))

    def test_least_heights_of_nested_orders(self):
        ground = (("a",), (("r", 0, samples.ROW), ("m", 0, samples.NEWER)))
        for thing, height, right in ((("r",), (0, ()), False), (("r",), (0, ("a",)), True), (("r",), (1, ()), True),
                                     (("m",), (0, "raw"), False), (("m",), (1, "raw"), True), (("m",), (0, "done"), True)):
            told = refusal(right_program, ground + ((ask(thing, height, NOTHING, NOTHING),),))
            self.assertEqual(told, (None, True) if right else (NoProgram, (0,)))

    def test_shapes(self):
        leaf = put(just(n("a"), 1))
        self.right(leaf)
        self.right(ask(n("a"), 1, leaf, NOTHING))
        for tree in (("put",), ("put", (), ()), ("put", None), ("put", []), ["put", ()], ("puts", ()), (True, ()), (), "put",
                     ("put", (just(n("a"), 1) + (1,),)), ("put", (n("a"),)), ("put", ((n("a"),),)), ("put", (None,)),
                     ("put", ([n("a"), ("just", 1)],)), ("put", just(n("a"), 1))):
            self.wrong(tree)
            self.wrong(ask(n("a"), 1, tree, NOTHING))
            self.wrong(ask(n("a"), 1, NOTHING, tree))
        for tree in (("ask", n("a"), 1, leaf), ("ask", n("a"), 1, leaf, leaf, leaf), ("asks", n("a"), 1, leaf, leaf),
                     ("put", n("a"), 1, leaf, leaf), ["ask", n("a"), 1, leaf, leaf], ("ask", leaf), ("ask", ()),
                     ("ask", 1, n("a"), leaf, leaf), (None, n("a"), 1, leaf, leaf)):
            self.wrong(tree)

    def test_lists_for_tuples(self):
        rule = ask(n("A"), 1, put((n("b"), ("plus", n("A"), 2)), just(S, ("a",))), ask(S, ("c", "b"), NOTHING, NOTHING))
        self.right(rule)
        others = lists_for_tuples(rule)
        self.assertEqual(len(others), 19)
        for other in others:
            self.wrong(other)
        whole = program(rule)
        for other in lists_for_tuples(whole):
            number = -1 if same(other[2:], whole[2:]) or isinstance(other[2], list) or isinstance(other, list) else 0
            self.refused(other, number)

    def test_how_many_puts(self):
        for many in range(6):
            leaf = put(*[just(n("a"), k) for k in range(many)])
            for tree in (leaf, ask(n("a"), 1, leaf, NOTHING), ask(n("a"), 1, NOTHING, leaf)):
                if many <= 3:
                    self.right(tree)
                else:
                    self.wrong(tree)

    def test_how_many_leaves(self):
        for many in range(1, 12):
            if many <= 8:
                self.right(with_leaves(many))
            else:
                self.wrong(with_leaves(many))
        self.assertEqual(len(leaves_of(with_leaves(9))), 9)

    def test_how_many_trees_within(self):
        for deep in range(1, 9):
            if deep <= 5:
                self.right(chain_of(deep))
            else:
                self.wrong(chain_of(deep))
        self.right(ask(n("a"), 1, chain_of(4), chain_of(3)))
        self.wrong(ask(n("a"), 1, chain_of(5), NOTHING))
        self.wrong(ask(n("a"), 1, NOTHING, chain_of(5)))

    def test_very_deep_trees_are_refused(self):
        tree = NOTHING
        for k in range(14):
            tree = ask(n("a"), 1, tree, NOTHING)
        self.wrong(tree)

    def test_how_many_marks(self):
        def with_marks(marks):
            return ask(n(marks[0]), 1, put((n(marks[1]), ("of", n(marks[2])))), put(just(("w", "A", marks[3]), "top")))
        self.right(with_marks("ABCA"))
        self.right(with_marks("ACCD"))
        self.right(with_marks("FEAF"))
        self.wrong(with_marks("ABCD"))
        self.wrong(with_marks("BCDA"))
        self.wrong(with_marks("BCDF"))
        # Rules have their marks each on its own.
        self.right(with_marks("ABCA"), with_marks("ADEA"), with_marks("AFFF"))


class Programs(Checked):
    def test_how_many_rules(self):
        for many in range(7):
            self.right(*[NOTHING] * many)
        self.wrong(*[NOTHING] * 7, number=-1)
        self.wrong(*[None] * 7, number=-1)
        self.wrong(*[None] * 6)

    def test_the_first_rule_that_is_none(self):
        wrong = put(just(n("a"), None))
        for many in range(1, 7):
            for place in range(many):
                rules = [NOTHING] * many
                rules[place] = wrong
                self.wrong(*rules, number=place)
                rules[-1] = None
                self.wrong(*rules, number=place)

    def test_the_ground_goes_first(self):
        for names, heads in (((), HEADS), (("a", "a"), HEADS), (list(NAMES), HEADS), (NAMES, ()), (NAMES, list(HEADS)),
                             (NAMES, HEADS[:1] * 2), (NAMES, (("n", True, NUM),)), (NAMES, (("n", 3, NUM),)),
                             (None, HEADS), (NAMES, None), (NAMES, 7), (HEADS, NAMES), ("ab", HEADS)):
            for rules in ((), (NOTHING,), (None,), None, [NOTHING]):
                self.refused((names, heads, rules), -1)

    def test_rules_of_other_kinds(self):
        for rules in ([], [NOTHING], None, "", 0, True, "put"):
            self.refused(GROUND + (rules,), -1)
        for thing in OTHER_THINGS:
            self.refused(GROUND + ((NOTHING, thing),), 1)

    def test_things_that_are_no_tuple_of_three(self):
        for thing in OTHER_THINGS + (GROUND, GROUND + ((), ()), list(GROUND) + [()], (GROUND, ()), "abc", [1, 2, 3]):
            self.refused(thing, -1)
        self.refused(samples.nested((), 29), -1)
        self.refused(tuple([NOTHING] * 5000), -1)

    def test_great_things_within(self):
        self.refused(GROUND + ((tuple([n("a")] * 3000),),), 0)
        self.refused(GROUND + ((("put", tuple([just(n("a"), 1)] * 1500)),),), 0)
        self.refused(GROUND + ((samples.nested((), 27),),), 0)

    def test_sample_texts_are_right(self):
        from onlyrise.reading import read_program
        rows = ["names a b", "head n 1 num", "rule ask n.A 3 put 1 n.B plus n.A 2 put 0", "rule put 1 n.a just 0"]
        self.assertIs(right_program(read_program(rows)), True)


class Marks(unittest.TestCase):
    def test_wherever_they_stand(self):
        for rule, marks in ((NOTHING, ()), (put(just(n("a"), 1)), ()), (put(just(n("F"), 1)), ("F",)),
                            (put((n("a"), ("of", n("B")))), ("B",)), (put((n("a"), ("plus", n("C"), 1))), ("C",)),
                            (put((n("a"), ("sum", n("D"), n("a")))), ("D",)),
                            (put((n("a"), ("meet", n("a"), n("E")))), ("E",)),
                            (ask(n("A"), 1, NOTHING, NOTHING), ("A",)),
                            (ask(n("a"), 1, put(just(n("B"), 1)), NOTHING), ("B",)),
                            (ask(n("a"), 1, NOTHING, put(just(n("C"), 1))), ("C",))):
            self.assertTrue(same(marks_of(rule), marks), rule)

    def test_rising_and_each_once(self):
        rule = ask(("w", "F", "A"), "top", put((n("C"), ("sum", n("A"), n("C"))), just(n("F"), 2)),
                   ask(n("A"), 2, NOTHING, put(just(n("C"), 1))))
        self.assertTrue(same(marks_of(rule), ("A", "C", "F")))
        self.assertTrue(same(marks_of(put(just(("w", "B", "B"), "top"))), ("B",)))
        self.assertTrue(same(marks_of(put(just(("w", "B", "A"), "top"))), ("A", "B")))


class Leaves(unittest.TestCase):
    def test_a_leaf_alone(self):
        leaf = put(just(n("a"), 1), just(n("A"), 2))
        self.assertTrue(same(leaves_of(leaf), [((), leaf[1])]))
        self.assertTrue(same(leaves_of(NOTHING), [((), ())]))

    def test_yes_ahead_of_no(self):
        leaf = [put(just(n("a"), k)) for k in range(5)]
        one, two, three, four = (n("A"), 3), (low("b"), 2), (C, "done"), (n("A"), 9)
        rule = ask(*one, ask(*two, leaf[0], ask(*three, leaf[1], leaf[2])), ask(*four, leaf[3], leaf[4]))
        self.assertTrue(same(leaves_of(rule), [
            ((one + (True,), two + (True,)), leaf[0][1]),
            ((one + (True,), two + (False,), three + (True,)), leaf[1][1]),
            ((one + (True,), two + (False,), three + (False,)), leaf[2][1]),
            ((one + (False,), four + (True,)), leaf[3][1]),
            ((one + (False,), four + (False,)), leaf[4][1]),
        ]))

    def test_told_lists_are_the_askers_own(self):
        rule = with_leaves(3)
        told = leaves_of(rule)
        told.clear()
        self.assertEqual(len(leaves_of(rule)), 3)


class Cases(unittest.TestCase):
    def test_no_rules_and_no_marks(self):
        self.assertTrue(same(cases_of(program()), []))
        self.assertTrue(same(cases_of(program(NOTHING, put(just(n("a"), 1)))), [(0, ()), (1, ())]))

    def test_by_rules_then_as_python_sorts(self):
        one = put(just(n("C"), 1))
        two = put(just(("w", "E", "B"), "top"))
        self.assertTrue(same(cases_of(program(two, NOTHING, one)), [
            (0, ("a", "a")), (0, ("a", "b")), (0, ("b", "a")), (0, ("b", "b")), (1, ()), (2, ("a",)), (2, ("b",))]))

    def test_names_as_python_sorts(self):
        names = ("b", "aa", "a", "ab")
        told = cases_of(program(put(just(n("A"), 1)), names=names))
        self.assertTrue(same(told, [(0, ("a",)), (0, ("aa",)), (0, ("ab",)), (0, ("b",))]))

    def test_three_marks_of_four_names(self):
        names = ("d", "b", "c", "a")
        rule = put(just(("w", "A", "B"), "top"), just(n("C"), 1))
        told = cases_of(program(rule, names=names))
        self.assertEqual(len(told), 64)
        self.assertEqual(told, sorted(set(told)))
        self.assertTrue(all(len(words) == 3 and set(words) <= set(names) for k, words in told))

    def test_told_lists_are_the_askers_own(self):
        given = program(put(just(n("A"), 1)))
        cases_of(given).clear()
        self.assertEqual(len(cases_of(given)), 2)


class Named(unittest.TestCase):
    def test_each_mark_gets_its_name(self):
        rule = ask(n("F"), 1, put((n("B"), ("of", n("D")))), NOTHING)
        case = (4, ("x", "y", "x"))
        for thing, told in ((n("B"), n("x")), (n("D"), n("y")), (n("F"), n("x")), (("w", "F", "D"), ("w", "x", "y")),
                            (("w", "D", "b"), ("w", "y", "b")), (("w", "D", "D"), ("w", "y", "y")), (n("a"), n("a")), (C, C)):
            self.assertTrue(same(named(rule, case, thing), told))

    def test_of_no_marks(self):
        self.assertTrue(same(named(NOTHING, (0, ()), n("a")), n("a")))

    def test_a_head_that_is_called_like_a_name(self):
        rule = put((("a", "A"), ("just", 1)))
        self.assertTrue(same(named(rule, (0, ("b",)), ("a", "A")), ("a", "b")))


if __name__ == "__main__":
    unittest.main()
