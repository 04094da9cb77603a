import unittest

from onlyrise.things import is_ground, is_spoken, is_thing, order_of, things_of
from tests import samples
from tests.samples import GROUND, LOW, NUM, OTHER_THINGS, same

HEADS = (("h", 1, NUM),)


def heads(many):
    return tuple(("abcdefgh"[k], k % 3, NUM) for k in range(many))


class Grounds(unittest.TestCase):
    def right(self, thing):
        self.assertIs(is_ground(thing), True, thing)

    def wrong(self, thing):
        self.assertIs(is_ground(thing), False, thing)

    def test_samples(self):
        self.right(GROUND)
        self.right(samples.NESTED_GROUND)
        for order in samples.ORDERS:
            self.right((("a",), (("h", 0, order),)))

    def test_how_many_names_and_heads(self):
        for many in range(8):
            self.assertIs(is_ground((tuple("abcdefgh"[:many]), HEADS)), 1 <= many <= 4, many)
            self.assertIs(is_ground((("a",), heads(many))), 1 <= many <= 5, many)

    def test_how_many_words(self):
        for many in (0, 1, 2):
            self.right((("a",), (("h", many, NUM),)))
        for many in (3, -1, True, False, None, "1", (1,), samples.TWENTY):
            self.wrong((("a",), (("h", many, NUM),)))
            self.wrong((("a",), HEADS + (("k", many, NUM),)))
            self.wrong((("a",), (("k", many, NUM),) + HEADS))

    def test_twice(self):
        self.wrong((("a", "a"), HEADS))
        self.wrong((("a", "b", "a"), HEADS))
        self.wrong((("a",), (("h", 1, NUM), ("h", 1, NUM))))
        self.wrong((("a",), (("h", 1, NUM), ("k", 0, NUM), ("h", 0, LOW))))

    def test_a_head_called_like_a_name(self):
        self.right((("a", "b"), (("a", 1, NUM), ("b", 0, LOW))))

    def test_parts_of_other_kinds(self):
        for name in ("A", "", "abcdefghi", "a b", 0, True, None, ("a",), ["a"]):
            self.wrong(((name,), HEADS))
            self.wrong((("a", name), HEADS))
            self.wrong((("a",), ((name, 1, NUM),)))
            self.wrong((("a",), HEADS + ((name, 1, NUM),)))
        for order in ("num", ["num"], (), ("chain", ("a",)), None, 0, ("num", "num")):
            self.wrong((("a",), (("h", 1, order),)))
            self.wrong((("a",), HEADS + (("k", 1, order),)))

    def test_lists_and_other_shapes(self):
        self.wrong([("a",), HEADS])
        self.wrong((["a"], HEADS))
        self.wrong((("a",), list(HEADS)))
        self.wrong((("a",), (["h", 1, NUM],)))
        self.wrong(("a", HEADS))
        self.wrong((("a",), HEADS[0]))
        self.wrong((("a",), (("h", 1),)))
        self.wrong((("a",), (("h", 1, NUM, NUM),)))
        self.wrong((("a",),))
        self.wrong((("a",), HEADS, ()))
        self.wrong((HEADS, ("a",)))

    def test_other_things(self):
        for thing in OTHER_THINGS:
            self.wrong(thing)
            self.wrong((("a",), thing))
            self.wrong((thing, thing))
            self.wrong((("a",), (thing,)))
            self.wrong((("a",), HEADS + (thing,)))
        self.wrong(samples.nested("a", 29))


class Things(unittest.TestCase):
    def check(self, thing, is_one, is_spoken_one):
        self.assertIs(is_thing(GROUND, thing), is_one, thing)
        self.assertIs(is_spoken(GROUND, thing), is_spoken_one, thing)

    def test_none_to_two_words(self):
        for thing in (("low",), ("w",), ("n", "a"), ("n", "b"), ("b", "a", "b"), ("b", "b", "a")):
            self.check(thing, True, True)

    def test_a_name_twice(self):
        self.check(("b", "a", "a"), True, True)
        self.check(("b", "b", "b"), True, True)

    def test_words_too_many_or_too_few(self):
        for thing in ((), ("low", "a"), ("n",), ("n", "a", "a"), ("b",), ("b", "a"), ("b", "a", "a", "a"),
                      ("low", "A"), ("n", "A", "A"), ("b", "A"), ("n",) + ("a",) * 10000):
            self.check(thing, False, False)

    def test_words_of_no_name(self):
        for word in ("c", "n", "low", "", "ab", 0, True, None, ("a",), ["a"]):
            self.check(("n", word), False, False)
            self.check(("b", "a", word), False, False)
            self.check(("b", word, "A"), False, False)

    def test_heads_of_no_name(self):
        for head in ("x", "a", "A", "", 0, True, None, ("n",), ["n"]):
            self.check((head,), False, False)
            self.check((head, "a"), False, False)

    def test_marks_in_spoken_things_only(self):
        for mark in "ABCDEF":
            self.check(("n", mark), False, True)
            self.check(("b", "a", mark), False, True)
            self.check(("b", mark, "b"), False, True)
            self.check(("b", mark, mark), False, True)
        self.check(("b", "A", "F"), False, True)
        for sign in "GHZ":
            self.check(("n", sign), False, False)
            self.check(("b", "A", sign), False, False)
        self.check(("n", "AB"), False, False)

    def test_lists_and_other_things(self):
        self.check(["n", "a"], False, False)
        self.check("n", False, False)
        self.check(("n", ("a",)), False, False)
        for thing in OTHER_THINGS:
            self.check(thing, False, False)

    def test_a_head_called_like_a_name(self):
        self.check(("b", "b", "a"), True, True)
        self.check(("n", "b"), True, True)


class ThingsOf(unittest.TestCase):
    def test_all_rising(self):
        told = [("b", "a", "a"), ("b", "a", "b"), ("b", "b", "a"), ("b", "b", "b"), ("low",), ("n", "a"), ("n", "b"),
                ("s", "a"), ("s", "b"), ("w",)]
        self.assertTrue(same(things_of(GROUND), told))

    def test_just_the_things_of_the_ground(self):
        ground = (("d", "c", "ab", "a"), (("y", 2, NUM), ("x", 1, LOW), ("aa", 0, NUM), ("a", 2, NUM), ("z", 0, LOW)))
        words = ground[0]
        every = [(head,) for head in "axyz"] + [("aa",)]
        every = every + [thing + (word,) for thing in every for word in words]
        every = every + [thing + (word,) for thing in every for word in words]
        self.assertEqual(things_of(ground), sorted({thing for thing in every if is_thing(ground, thing)}))
        self.assertEqual(len(things_of(ground)), 16 + 4 + 1 + 16 + 1)

    def test_a_new_list_each_time(self):
        first = things_of(GROUND)
        first.append("more")
        first[0] = "other"
        self.assertEqual(len(things_of(GROUND)), 10)
        self.assertEqual(things_of(GROUND)[0], ("b", "a", "a"))


class OrderOf(unittest.TestCase):
    def test_the_order_of_the_head(self):
        for thing, order in ((("n", "a"), NUM), (("n", "A"), NUM), (("low",), LOW), (("b", "A", "b"), samples.CHAIN),
                             (("b", "a", "b"), samples.CHAIN), (("s", "F"), samples.SET), (("w",), samples.DIAMOND)):
            self.assertTrue(same(order_of(GROUND, thing), order), thing)


if __name__ == "__main__":
    unittest.main()
