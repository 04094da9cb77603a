import unittest

from onlyrise.errors import NoJoin
from onlyrise.risechecker import lets_rising
from onlyrise.rising import rising
from onlyrise.together import papers_together, put_together
from onlyrise.trees import right_program
from tests.rules import NOTHING, X, Y, ask, just, put, refusal
from tests.samples import CHAIN, LOW, NUM, same

HEAD = ("x", 0, NUM)


def heads(letters):
    return tuple((letter, 0, NUM) for letter in letters)


class PutTogether(unittest.TestCase):
    def told(self, one, other, told):
        self.assertTrue(same(put_together(one, other), told))
        self.assertIs(right_program(told), True)

    def refused(self, one, other, word):
        self.assertEqual(refusal(put_together, one, other), (NoJoin, (word,)))

    def test_names_heads_and_rules_of_both(self):
        one = (("b", "a"), (("x", 0, NUM), ("k", 2, CHAIN)), (put(just(X, 1)), NOTHING))
        other = (("c", "a", "d"), (("y", 0, NUM), ("k", 2, CHAIN), ("j", 1, LOW)), (put(just(Y, 2)),))
        self.told(one, other, (("b", "a", "c", "d"), (("x", 0, NUM), ("k", 2, CHAIN), ("y", 0, NUM), ("j", 1, LOW)),
                               (put(just(X, 1)), NOTHING, put(just(Y, 2)))))
        self.told(other, one, (("c", "a", "d", "b"), (("y", 0, NUM), ("k", 2, CHAIN), ("j", 1, LOW), ("x", 0, NUM)),
                               (put(just(Y, 2)), put(just(X, 1)), NOTHING)))

    def test_alike_ones(self):
        one = (("a",), (HEAD,), (NOTHING,))
        self.told(one, one, (("a",), (HEAD,), (NOTHING, NOTHING)))
        self.told(one, (("a",), (HEAD,), ()), one)

    def test_a_head_of_both_with_another_many_or_order(self):
        one = (("a",), (("k", 0, LOW), HEAD), ())
        for head in (("x", 1, NUM), ("x", 2, NUM), ("x", 0, LOW), ("x", 0, CHAIN), ("x", 0, ("newer", NUM)), ("x", 1, LOW)):
            self.refused(one, (("a",), (head,), ()), "heads")
            self.refused(one, (("a",), (("k", 0, LOW), ("j", 0, LOW), head), ()), "heads")
            self.refused((("a",), (head,), ()), one, "heads")

    def test_more_than_four_names(self):
        self.told((("a", "b"), (HEAD,), ()), (("c", "b", "d"), (HEAD,), ()), (("a", "b", "c", "d"), (HEAD,), ()))
        self.refused((("a", "b"), (HEAD,), ()), (("c", "e", "d"), (HEAD,), ()), "names")
        self.refused((("a", "b", "c", "d"), (HEAD,), ()), (("e",), (HEAD,), ()), "names")

    def test_more_than_five_heads(self):
        self.told((("a",), heads("pqr"), ()), (("a",), heads("sqt"), ()), (("a",), heads("pqrst"), ()))
        self.refused((("a",), heads("pqr"), ()), (("a",), heads("stu"), ()), "heads")
        self.refused((("a",), heads("pqrst"), ()), (("a",), heads("u"), ()), "heads")

    def test_more_than_six_rules(self):
        for many in range(7):
            one = (("a",), (HEAD,), (NOTHING,) * many)
            self.told(one, (("a",), (HEAD,), (NOTHING,) * (6 - many)), (("a",), (HEAD,), (NOTHING,) * 6))
        for many in range(1, 7):
            one = (("a",), (HEAD,), (NOTHING,) * many)
            self.refused(one, (("a",), (HEAD,), (NOTHING,) * (7 - many)), "rules")
        self.refused((("a",), (HEAD,), (NOTHING,) * 6), (("a",), (HEAD,), (NOTHING,) * 6), "rules")

    def test_which_word_goes_first(self):
        many, few = ("a", "b", "c", "d"), ("e",)
        rules = (NOTHING,) * 6
        other = (("x", 1, NUM),)
        self.refused((many, heads("pqrs") + (HEAD,), rules), (few, other, rules), "heads")
        self.refused((many, heads("pqrst"), rules), (few, heads("u"), rules), "names")
        self.refused((many, heads("pqrst"), rules), (("a",), heads("u"), rules), "heads")
        self.refused((many, heads("pqrst"), rules), (("a",), heads("p"), rules), "rules")
        self.refused((many, (HEAD,), ()), (few, other, ()), "heads")
        self.refused((many, (HEAD,), rules), (few, (HEAD,), rules), "names")


class PapersTogether(unittest.TestCase):
    def test_one_behind_the_other(self):
        self.assertTrue(same(papers_together((), ()), ()))
        self.assertTrue(same(papers_together(((),), ()), ((),)))
        one, other = (("clash", 1, 0),), (("clash", 0, 0), ("covers", ()))
        self.assertTrue(same(papers_together(((), one), (other,)), ((), one, other)))

    def test_let_by_of_the_program_put_together(self):
        first = ask(X, 3, put(just(X, 5)), put((X, ("plus", X, 1))))
        second = ask(("n", "A"), 3, put((("n", "b"), ("of", ("n", "A")))), NOTHING)
        one = (("a",), (HEAD,), (first, NOTHING))
        other = (("b", "c"), (HEAD, ("n", 1, NUM)), (second, first))
        for left, right in ((one, other), (other, one), (one, one)):
            papers = [rising(left), rising(right)]
            self.assertEqual([paper[0] for paper in papers], ["rises", "rises"])
            both = put_together(left, right)
            self.assertIs(right_program(both), True)
            self.assertIs(lets_rising(both, papers_together(papers[0][1], papers[1][1])), True)


if __name__ == "__main__":
    unittest.main()
