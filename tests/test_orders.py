import unittest

from onlyrise.orders import is_height, is_order
from tests import samples
from tests.samples import LOW, NUM, OTHER_THINGS, TWENTY

LETTERS = "abcdefghijklmnopqrstuvwxyz"


def letters(many):
    return tuple(LETTERS[:many])


def chain_pairs(names):
    return tuple((names[k], names[k + 1]) for k in range(len(names) - 1))


def all_pairs(names):
    return tuple((names[i], names[j]) for i in range(len(names)) for j in range(i + 1, len(names)))


class Orders(unittest.TestCase):
    def right(self, thing):
        self.assertIs(is_order(thing), True, thing)

    def wrong(self, thing):
        self.assertIs(is_order(thing), False, thing)

    def test_samples(self):
        for order in samples.ORDERS:
            self.right(order)

    def test_num_and_low_are_alone(self):
        for word in ("num", "low"):
            self.right((word,))
            self.wrong(word)
            self.wrong([word])
            self.wrong((word, ()))
            self.wrong((word, ("a", "b")))
            self.wrong((word, ("a", "b"), (("a", "b"),)))
            self.wrong((word, word))

    def test_how_many_names(self):
        for word, fewest, most in (("chain", 2, 6), ("set", 1, 5)):
            for many in range(9):
                self.assertIs(is_order((word, letters(many))), fewest <= many <= most, (word, many))

    def test_names_unlike_and_names(self):
        for word in ("chain", "set"):
            self.right((word, ("b", "a")))
            self.wrong((word, ("a", "a")))
            self.wrong((word, ("a", "b", "a")))
            self.wrong((word, ["a", "b"]))
            self.wrong((word, "ab"))
            self.wrong([word, ("a", "b")])
            self.wrong((word,))
            self.wrong((word, ("a", "b"), ("c", "d")))
            for thing in ("A", "", "abcdefghi", "a1", 1, True, None, ("b",), ["b"]):
                self.wrong((word, ("a", thing)))
                self.wrong((word, (thing, "a")))
        self.wrong(("set", ("a", "b", ["c"])))

    def test_other_words(self):
        for word in ("Num", "", "numb", "web", "row", "newer", "chain", 0, None, True, ("num",)):
            self.wrong((word,))
        for word in ("num", "webs", "", None, 1, ("row",)):
            self.wrong((word, ("a", "b")))
            self.wrong((word, (NUM,)))
            self.wrong((word, NUM))
            self.wrong((word, ("a", "b"), (("a", "b"),)))

    def test_four_parts_and_more(self):
        for order in samples.ORDERS:
            for many in range(len(order) + 1, 7):
                self.wrong(order + order[-1:] * (many - len(order)))
                self.wrong(order + (0,) * (many - len(order)))
            self.wrong(order[:-1])
            self.wrong(list(order))

    def test_other_things(self):
        for thing in OTHER_THINGS:
            self.assertIs(is_order(thing), thing == ("num",), thing)
        for thing in OTHER_THINGS:
            for word in ("chain", "set", "row"):
                if thing not in (("a",), ("a", "b"), ("num",)) or word == "row":
                    self.wrong((word, thing))
            self.wrong(("web", thing, thing))
            self.wrong(("web", ("a", "b"), thing))
            if thing != ("num",):
                self.wrong(("newer", thing))
                self.wrong(("row", (thing,)))
        self.wrong(samples.nested("num", 29))
        self.wrong(("num",) * 11000)


class Webs(unittest.TestCase):
    def right(self, names, pairs):
        self.assertIs(is_order(("web", names, pairs)), True, (names, pairs))

    def wrong(self, names, pairs):
        self.assertIs(is_order(("web", names, pairs)), False, (names, pairs))

    def test_how_many_names(self):
        for many in range(10):
            names = letters(many)
            pairs = chain_pairs(names) if many > 1 else (("a", "b"),)
            self.assertIs(is_order(("web", names, pairs)), 2 <= many <= 7, many)

    def test_how_many_pairs(self):
        self.wrong(("a", "b"), ())
        self.right(("a", "b"), (("a", "b"),))
        pairs = all_pairs(letters(7))
        self.assertEqual(len(pairs), 21)
        self.wrong(letters(7), pairs)
        # Without the pair from the first to the last one it is the same web, of just twenty pairs.
        twenty = tuple(pair for pair in pairs if pair != ("a", "g"))
        self.right(letters(7), twenty)

    def test_pairs(self):
        self.wrong(("a", "b"), (("a", "b"), ("a", "b")))
        self.wrong(("a", "b"), (("a", "a"), ("a", "b")))
        self.wrong(("a", "b"), (("a", "b"), ("b", "b")))
        self.wrong(("a", "b"), (("a", "b"), ("a", "c")))
        self.wrong(("a", "b"), (("a", "b"), ("c", "b")))
        self.wrong(("a", "b"), (("a", "b", "b"),))
        self.wrong(("a", "b"), (("a", "b"), ("a",)))
        self.wrong(("a", "b"), (("a", "b"), ()))
        self.wrong(("a", "b"), (["a", "b"],))
        self.wrong(("a", "b"), [("a", "b")])
        self.wrong(["a", "b"], (("a", "b"),))
        self.wrong(("a", "b"), ("ab",))
        self.wrong(("a", "b"), (("a", ["b"]),))
        self.wrong(("a", "b"), ("a", "b"))
        self.wrong(("a", "b", "a"), (("a", "b"),))
        self.wrong(("a", "B"), (("a", "B"),))

    def test_two_over_one_another(self):
        self.wrong(("a", "b"), (("a", "b"), ("b", "a")))
        self.wrong(("a", "b", "c"), (("a", "b"), ("b", "c"), ("c", "b")))
        self.wrong(("a", "b", "c", "d"), (("a", "b"), ("b", "c"), ("c", "d"), ("d", "b")))
        self.wrong(("a", "b", "c"), (("a", "b"), ("b", "c"), ("c", "a")))

    def test_no_lowest_one(self):
        self.wrong(("a", "b", "t"), (("a", "t"), ("b", "t")))
        self.wrong(("a", "b", "c"), (("a", "b"),))
        self.wrong(("a", "b", "c", "d"), (("a", "b"), ("c", "d")))

    def test_no_least_one_over_both(self):
        # Nothing at all over both.
        self.wrong(("o", "a", "b"), (("o", "a"), ("o", "b")))
        # Two over both, and neither over the other one.
        self.wrong(("o", "a", "b", "c", "d"),
                   (("o", "a"), ("o", "b"), ("a", "c"), ("a", "d"), ("b", "c"), ("b", "d")))
        crossed = (("o", "a"), ("o", "b"), ("a", "c"), ("a", "d"), ("b", "c"), ("b", "d"), ("c", "t"), ("d", "t"))
        self.wrong(("o", "a", "b", "c", "d", "t"), crossed)
        self.right(("o", "a", "b", "j", "c", "d", "t"), (
            ("o", "a"), ("o", "b"), ("a", "j"), ("b", "j"), ("j", "c"), ("j", "d"), ("c", "t"), ("d", "t")))

    def test_names_in_any_order(self):
        self.right(("top", "a", "o"), (("a", "top"), ("o", "a")))
        self.right(samples.DIAMOND[1], samples.DIAMOND[2])
        self.right(samples.TALL[1], samples.TALL[2])


class Within(unittest.TestCase):
    def right(self, thing):
        self.assertIs(is_order(thing), True, thing)

    def wrong(self, thing):
        self.assertIs(is_order(thing), False, thing)

    def test_how_many_in_a_row(self):
        for many in range(6):
            self.assertIs(is_order(("row", (NUM,) * many)), 1 <= many <= 3, many)
        self.right(("row", (NUM, LOW)))
        self.wrong(("row", [NUM]))
        self.wrong(["row", (NUM,)])
        self.wrong(("row", (["num"],)))
        self.wrong(("row", (NUM, ("chain", ("a",)))))
        self.wrong(("row", NUM))
        self.wrong(("row",))
        self.wrong(("row", (NUM,), (NUM,)))

    def test_newer(self):
        self.right(("newer", NUM))
        self.wrong(("newer", (NUM,)))
        self.wrong(("newer", ["num"]))
        self.wrong(["newer", NUM])
        self.wrong(("newer",))
        self.wrong(("newer", NUM, NUM))
        self.wrong(("newer", "num"))

    def test_three_within_one_another_and_four(self):
        for three in (("row", (("row", (NUM,)),)), ("newer", ("newer", LOW)), ("row", (("newer", samples.SET),)),
                      ("newer", ("row", (samples.DIAMOND,))), ("row", (NUM, NUM, ("newer", samples.CHAIN)))):
            self.right(three)
            self.wrong(("newer", three))
            self.wrong(("row", (three,)))
        thing = NUM
        for k in range(14):
            thing = ("newer", thing)
        self.wrong(thing)

    def test_six_in_all_and_seven(self):
        row = ("row", (NUM, NUM, NUM))
        self.right(("row", (row, NUM)))
        self.wrong(("row", (row, NUM, NUM)))
        self.wrong(("row", (row, ("newer", NUM))))
        self.right(("row", (("row", (NUM, LOW)), ("newer", NUM))))
        self.wrong(("row", (("row", (NUM, LOW)), ("newer", NUM), NUM)))
        self.right(("row", (("newer", NUM), ("newer", NUM), NUM)))
        self.wrong(("row", (("newer", NUM), ("newer", NUM), ("newer", NUM))))
        self.right(("newer", row))


class Heights(unittest.TestCase):
    def test_heights_of_each_sort(self):
        for order in samples.ORDERS:
            for height in samples.some_heights(order):
                self.assertIs(is_height(order, height), True, (order, height))

    def check(self, order, right, wrong):
        for thing in right:
            self.assertIs(is_height(order, thing), True, (order, thing))
        for thing in wrong:
            self.assertIs(is_height(order, thing), False, (order, thing))

    def test_num_and_low(self):
        great = 10 ** 399
        self.check(NUM, (0, 1, 2, TWENTY, great), (True, False, -1, -TWENTY, None, "0", "", (), (0,), [0]))
        self.check(LOW, (None, 0, 1, TWENTY, great), (True, False, -1, -TWENTY, "0", "-", (), (0,), [0], (None,)))

    def test_chain_and_web(self):
        for order in (samples.CHAIN, samples.DIAMOND):
            first = order[1][0]
            self.check(order, order[1], ("other", "", None, 0, 1, True, (first,), [first], order[1], first + "x"))

    def test_set(self):
        self.check(samples.SET, ((), ("c",), ("a",), ("c", "a"), ("c", "b"), ("a", "b"), ("c", "a", "b")),
                   (("a", "c"), ("b", "a"), ("a", "b", "c"), ("c", "c"), ("c", "a", "a"), ("x",), ("c", "x"),
                    ["c"], [], "c", "", None, 0, True, (0,), (True,), (None,), (("c",),), (["c"],), ("c",) * 11000))

    def test_row(self):
        self.check(samples.ROW, ((0, ()), (TWENTY, ("c", "b"))),
                   ((), (0,), (0, (), 0), [0, ()], (0, []), (True, ()), (-1, ()), ((), 0), (0, ("b", "c")), 0, None,
                    "", ((0, ()),)))
        self.check(("row", (NUM,)), ((0,), (5,)), (0, (), (0, 0), (True,), (None,), [0]))
        self.check(("row", (LOW, LOW, NUM)), ((None, 1, 0), (1, None, 2)), ((None, None, None), (None, None), (0, 0)))

    def test_newer(self):
        self.check(samples.NEWER, ((0, "raw"), (7, "done"), (TWENTY, "checked")),
                   ((True, "raw"), (False, "raw"), (-1, "raw"), (None, "raw"), ("0", "raw"), (0, "other"), (0,), (),
                    (0, "raw", 0), [0, "raw"], "raw", 0, None, ("raw", 0)))

    def test_within_one_another(self):
        self.check(samples.ROW_IN_NEWER, ((0, (None, "root")), (3, (TWENTY, "top"))),
                   ((0, (None, "none")), (0, (True, "root")), (True, (None, "root")), (0, [None, "root"]),
                    (0, None, "root"), (0, (None,))))
        self.check(samples.DEEP_NEWER, ((0, (0, 0)), (1, (2, 3))), ((0, 0), (0, (True, 0)), (0, (0, True)), (0, 0, 0)))
        self.check(samples.DEEP_ROW, (((0, None), "raw"),), ((0, None, "raw"), ((0, None), ("raw",)), ([0, None], "raw")))

    def test_other_things(self):
        right = {NUM: (0, 1, 7, TWENTY), LOW: (None, 0, 1, 7, TWENTY), samples.SET: ((), ("a",), ("a", "b"))}
        for order in samples.ORDERS:
            for thing in OTHER_THINGS:
                told = any(samples.same(thing, height) for height in right.get(order, ()))
                self.assertIs(is_height(order, thing), told or (order == samples.TALL and thing == "a"), (order, thing))

    def test_what_is_handed_in_stays_unchanged(self):
        def things():
            return [["num"], ["chain", ["a", "b"]], ("chain", ["b", "a", "a"]), ("web", ["a"], [["a", "b"], ("a", "b")]),
                    ("row", [["num"], ("low",)]), ["newer", ["num"]], [3, ["c", "a", "c"]], (0, ["b"])]
        handed = things()
        for thing in handed:
            is_order(thing)
            for order in samples.ORDERS:
                is_height(order, thing)
        for thing, former in zip(handed, things()):
            self.assertTrue(samples.same(thing, former))


if __name__ == "__main__":
    unittest.main()
