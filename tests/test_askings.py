import copy
import itertools
import random
import unittest

from onlyrise.askings import holds, is_asking, only_rises, word_between
from onlyrise.heights import at_least, least
from onlyrise.roofs import bound_in, widest
from onlyrise.standings import height_in, is_over, is_standing, joined_standings
from onlyrise.things import order_of, things_of
from tests import samples
from tests.rules import GROUND, n, some_asking, some_standing
from tests.samples import CHAIN, LOW, NUM, OTHER_THINGS, SET, TWENTY, same, some_heights

C, S = ("c",), ("s",)
ONE = ("least", n("a"), 2)
OTHER = ("least", S, ("b",))


def low(*words):
    return ("low",) + words


def wrapped(asking, times):
    for k in range(times):
        asking = ("not", asking)
    return asking


def told_apart(ground, standing, asking):
    """Whether it holds, by the words alone."""
    if asking[0] == "least":
        order = order_of(ground, asking[1])
        return at_least(order, height_in(ground, standing, asking[1]), asking[2])
    parts = [told_apart(ground, standing, part) for part in asking[1:]]
    return not parts[0] if asking[0] == "not" else all(parts) if asking[0] == "both" else any(parts)


class IsAsking(unittest.TestCase):
    def asking(self, thing, told=True, ground=GROUND):
        kept = copy.deepcopy(thing)
        self.assertIs(is_asking(ground, thing), told, thing)
        self.assertTrue(same(thing, kept))

    def test_each_sort(self):
        self.asking(ONE)
        self.asking(OTHER)
        self.asking(("both", ONE, OTHER))
        self.asking(("either", ONE, ONE))
        self.asking(("not", ONE))
        self.asking(("either", ("not", ("both", ONE, OTHER)), ("not", OTHER)))

    def test_least_heights_too(self):
        for thing, height in ((n("b"), 0), (low("a"), None), (C, "raw"), (S, ()), (("w", "a", "b"), "root")):
            self.asking(("least", thing, height))

    def test_all_heights(self):
        heads = [("h", 0, order) for order in samples.ORDERS]
        for head in heads:
            ground = (("a",), (head,))
            for height in some_heights(head[2]):
                self.asking(("least", ("h",), height), True, ground)
        self.asking(("least", n("a"), TWENTY))

    def test_no_thing_or_height(self):
        for thing, height in ((n("A"), 2), (n("c"), 2), (n(), 2), (n("a", "a"), 2), (("x",), 2), ("n", 2), (["n", "a"], 2), (None, 2),
                              (n("a"), None), (n("a"), True), (n("a"), -1), (n("a"), "done"), (n("a"), "*"), (C, "rawer"), (C, 0), (S, ["b"]),
                              (S, ("b", "a")), (S, None), (low("a"), False), (("w", "a"), "top"), (("w", "a", "B"), "top"), ((), 2), ((1,), 2)):
            self.asking(("least", thing, height), False)
            self.asking(("not", ("least", thing, height)), False)
            self.asking(("both", ONE, ("least", thing, height)), False)
            self.asking(("either", ("least", thing, height), ONE), False)

    def test_words_too_many_or_lacking(self):
        for thing in (("least",), ("least", n("a")), ("least", n("a"), 2, 2), ("both",), ("both", ONE), ("both", ONE, ONE, ONE), ("either", ONE),
                      ("either", ONE, ONE, ONE), ("not",), ("not", ONE, ONE), ("both", "least", n("a")), ("not", ("not",)), ("both", (), ()),
                      ("both", ONE, None), ("either", None, ONE), ("not", None), ("not", "least"), ("not", 0), ("Both", ONE, ONE),
                      ("and", ONE, ONE), (ONE, "both", ONE), (("not",), ONE), (None, ONE), (True, ONE, ONE), (["not"], ONE), (ONE,), (ONE, ONE)):
            self.asking(thing, False)

    def test_other_kinds(self):
        for thing in OTHER_THINGS + (list(ONE), ["not", ONE], ("not", list(ONE)), ["both", ONE, ONE], ("both", ONE, list(OTHER)), "least",
                                     tuple([0] * 9000), samples.nested("not", 29), [ONE], [[ONE]]):
            self.asking(thing, False)

    def test_five_within_one_another(self):
        self.asking(wrapped(ONE, 4))
        self.asking(wrapped(ONE, 5), False)
        self.asking(wrapped(ONE, 25), False)
        self.asking(("both", wrapped(ONE, 3), ONE))
        self.asking(("both", wrapped(ONE, 4), ONE), False)
        self.asking(("either", ONE, wrapped(ONE, 3)))
        self.asking(("either", ONE, wrapped(ONE, 4)), False)

    def test_twelve_in_all(self):
        three = ("both", ONE, OTHER)
        seven = ("either", three, three)
        self.asking(("both", seven, three))
        self.asking(("both", seven, ("both", ("not", ONE), ONE)))
        self.asking(("not", ("both", seven, three)))
        self.asking(("both", seven, ("both", ("not", ONE), ("not", ONE))), False)
        self.asking(("both", ("not", seven), three), True)
        self.asking(("both", ("not", seven), ("both", ONE, ("not", ONE))), False)
        self.asking(("both", seven, seven), False)
        self.asking(("both", ("both", seven, seven), ("both", seven, seven)), False)


class Holds(unittest.TestCase):
    def holds(self, standing, asking, told):
        self.assertIs(holds(GROUND, standing, asking), told, (standing, asking))

    def test_least(self):
        for thing, asked, yes, no in ((n("a"), 2, (2, 3, TWENTY), (1,)), (low("a"), 2, (2, 1, 0), (3, TWENTY)), (C, "done", ("done", "checked"), ()),
                                      (S, ("a", "b"), (("a", "b"), ("c", "a", "b")), (("a",), ("c",), ("c", "b"))),
                                      (("w", "b", "a"), "left", ("left", "top"), ("right",))):
            for height in yes:
                self.holds(((thing, height),), ("least", thing, asked), True)
            for height in no:
                self.holds(((thing, height),), ("least", thing, asked), False)
            self.holds((), ("least", thing, asked), False)
            self.holds(((n("b"), 9),), ("least", thing, asked), False)
            self.holds((), ("least", thing, least(order_of(GROUND, thing))), True)

    def test_both_either_not(self):
        for a, b in itertools.product((1, 2), (("a",), ("b",))):
            standing = ((n("a"), a), (S, b))
            one, other = a == 2, b == ("b",)
            self.holds(standing, ("both", ONE, OTHER), one and other)
            self.holds(standing, ("both", OTHER, ONE), one and other)
            self.holds(standing, ("either", ONE, OTHER), one or other)
            self.holds(standing, ("not", ONE), not one)
            self.holds(standing, ("not", ("not", ONE)), one)
            self.holds(standing, ("both", ("not", ONE), ("either", ONE, OTHER)), not one and other)

    def test_as_the_words_tell(self):
        chance = random.Random(43)
        for number in range(1500):
            asking = some_asking(chance, GROUND)
            standing = some_standing(chance, GROUND, 5)
            self.holds(standing, asking, told_apart(GROUND, standing, asking))


class OnlyRises(unittest.TestCase):
    def test_no_not(self):
        for asking, told in ((ONE, True), (("both", ONE, OTHER), True), (("either", OTHER, ("both", ONE, ONE)), True), (("not", ONE), False),
                             (("not", ("not", ONE)), False), (("both", ONE, ("not", OTHER)), False), (("either", ("not", ONE), OTHER), False),
                             (("both", ("either", ONE, ("both", ONE, ("not", ONE))), ONE), False), (("least", C, "raw"), True)):
            self.assertIs(only_rises(asking), told, asking)

    def test_a_thing_called_not(self):
        ground = (("not",), (("not", 1, NUM),))
        asking = ("least", ("not", "not"), 1)
        self.assertIs(is_asking(ground, asking), True)
        self.assertIs(only_rises(asking), True)
        self.assertIs(holds(ground, ((("not", "not"), 1),), asking), True)

    def test_once_it_holds_it_holds_above(self):
        chance = random.Random(44)
        seen = 0
        for number in range(1500):
            asking = some_asking(chance, GROUND)
            if only_rises(asking):
                one = some_standing(chance, GROUND, 5)
                higher = joined_standings(GROUND, one, some_standing(chance, GROUND, 5))
                if holds(GROUND, one, asking):
                    seen += 1
                    self.assertIs(holds(GROUND, higher, asking), True)
        self.assertGreater(seen, 50)


class WordBetween(unittest.TestCase):
    def word(self, standing, roof, asking, told):
        self.assertTrue(same(word_between(GROUND, standing, roof, asking), told), (standing, roof, asking))

    def test_least(self):
        thing = n("a")
        for height, bound, told in ((2, 2, "yes"), (3, 9, "yes"), (2, "*", "yes"), (1, 1, "no"), (1, 2, "open"), (1, 7, "open"), (1, "*", "open")):
            self.word(((thing, height),), ((thing, bound),), ONE, told)

    def test_least_of_other_orders(self):
        for thing, asked, height, bound, told in (
                (low("a"), 4, 4, 3, "yes"), (low("a"), 4, 9, 5, "no"), (low("a"), 4, 9, 4, "open"), (low("a"), 4, 9, 0, "open"),
                (low("a"), 4, 9, "*", "open"), (C, "checked", "done", "done", "no"), (C, "checked", "done", "checked", "open"),
                (C, "done", "done", "checked", "yes"), (S, ("a", "b"), ("a",), ("c", "a"), "no"), (S, ("a", "b"), ("a",), ("c", "a", "b"), "open"),
                (S, ("a",), ("c", "a"), ("c", "a", "b"), "yes"), (("w", "a", "a"), "left", "right", "right", "no"),
                (("w", "a", "a"), "left", "right", "top", "open"), (("w", "a", "a"), "right", "right", "top", "yes")):
            self.word(((thing, height),), ((thing, bound),), ("least", thing, asked), told)

    def test_things_that_stand_in_neither(self):
        for thing in (n("b"), low("b"), C, S, ("w", "b", "b")):
            order = order_of(GROUND, thing)
            for height in some_heights(order):
                asking = ("least", thing, height)
                if height == least(order):
                    self.word((), (), asking, "yes")
                    self.word((), ((n("a"), 3),), asking, "yes")
                else:
                    self.word((), (), asking, "no")
                    self.word(((n("a"), 1),), ((n("a"), 3),), asking, "no")
                    self.word((), ((thing, "*"),), asking, "open")
                    self.word((), ((thing, height),), asking, "open")
                    self.word((), widest(GROUND), asking, "open")

    def test_both_either_not_by_their_words(self):
        askings = {"yes": ("least", n("a"), 1), "open": ("least", n("a"), 2), "no": ("least", n("a"), 3)}
        standing, roof = ((n("a"), 1),), ((n("a"), 2),)
        both = {("yes", "yes"): "yes", ("yes", "open"): "open", ("yes", "no"): "no", ("open", "open"): "open", ("open", "no"): "no", ("no", "no"): "no"}
        either = {("yes", "yes"): "yes", ("yes", "open"): "yes", ("yes", "no"): "yes", ("open", "open"): "open", ("open", "no"): "open", ("no", "no"): "no"}
        for word in askings:
            self.word(standing, roof, askings[word], word)
            self.word(standing, roof, ("not", askings[word]), {"yes": "no", "no": "yes", "open": "open"}[word])
            self.word(standing, roof, ("not", ("not", askings[word])), word)
        for one, other in both:
            for first, second in ((one, other), (other, one)):
                self.word(standing, roof, ("both", askings[first], askings[second]), both[one, other])
                self.word(standing, roof, ("either", askings[first], askings[second]), either[one, other])
                turned = ("not", ("both", ("not", askings[first]), ("not", askings[second])))
                self.word(standing, roof, turned, either[one, other])

    def test_parts_bound_to_one_another_are_left_open(self):
        standing, roof = ((n("a"), 1),), ((n("a"), 2),)
        self.word(standing, roof, ("either", ONE, ("not", ONE)), "open")
        self.word(standing, roof, ("both", ONE, ("not", ONE)), "open")

    def test_words_hold_between(self):
        chance = random.Random(45)
        ground = (("a",), (("n", 0, NUM), ("low", 0, LOW), ("c", 0, CHAIN), ("s", 0, SET)))
        heights = [[height for height in some_heights(order_of(ground, thing))] for thing in things_of(ground)]
        standings = []
        for row in itertools.product(*heights):
            standings.append(tuple(pair for pair in zip(things_of(ground), row) if pair[1] != least(order_of(ground, pair[0]))))
        self.assertTrue(all(is_standing(ground, standing) for standing in standings))
        seen = {"yes": 0, "no": 0, "open": 0}
        for number in range(150):
            lower = chance.choice(standings)
            roof = joined_standings(ground, lower, chance.choice(standings))
            asking = some_asking(chance, ground)
            between = [one for one in standings if is_over(ground, one, lower) and is_over(ground, roof, one)]
            word = word_between(ground, lower, roof, asking)
            seen[word] += 1
            truths = {holds(ground, one, asking) for one in between}
            if word != "open":
                self.assertEqual(truths, {word == "yes"})
            elif asking[0] == "least":
                self.assertEqual(truths, {True, False})
        self.assertGreater(min(seen.values()), 20)

    def test_nothing_is_changed(self):
        standing, roof, asking = ((n("a"), 1),), ((n("a"), "*"),), ("both", ONE, ("not", OTHER))
        kept = copy.deepcopy((standing, roof, asking))
        word_between(GROUND, standing, roof, asking)
        holds(GROUND, standing, asking)
        only_rises(asking)
        self.assertTrue(same((standing, roof, asking), kept))
        self.assertEqual(bound_in(GROUND, roof, n("a")), "*")


if __name__ == "__main__":
    unittest.main()
