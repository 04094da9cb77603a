import unittest

from onlyrise.heights import at_least, below, joined, least, met
from onlyrise.orders import is_height
from tests import samples
from tests.samples import CHAIN, DIAMOND, LINE, LOW, NEWER, NUM, ROW, SET, TALL, TWENTY, same


def reaches(order, low, high):
    """Whether pairs lead up from low to high, sought by going on from name to name."""
    return low == high or any(reaches(order, pair[1], high) for pair in order[2] if pair[0] == low)


def is_at_least(order, one, other):
    """Point 8, word by word."""
    sort = order[0]
    if sort == "num":
        return not one < other
    if sort == "low":
        return other is None or one is not None and not one > other
    if sort == "chain":
        return other in order[1][:order[1].index(one) + 1]
    if sort == "set":
        return set(other) <= set(one)
    if sort == "web":
        return reaches(order, other, one)
    if sort == "row":
        return all(is_at_least(order[1][k], one[k], other[k]) for k in range(len(order[1])))
    if one[0] != other[0]:
        return one[0] > other[0]
    return is_at_least(order[1], one[1], other[1])


def greatest(order, heights):
    return [height for height in heights if all(is_at_least(order, height, other) for other in heights)]


class AtLeast(unittest.TestCase):
    def test_all_pairs_of_all_sorts(self):
        for order in samples.ORDERS:
            heights = samples.some_heights(order)
            for one in heights:
                for other in heights:
                    self.assertIs(at_least(order, one, other), is_at_least(order, one, other), (order, one, other))

    def check(self, order, one, other, forth, back):
        self.assertIs(at_least(order, one, other), forth)
        self.assertIs(at_least(order, other, one), back)

    def test_as_told(self):
        self.check(NUM, 3, 2, True, False)
        self.check(NUM, TWENTY + 1, TWENTY, True, False)
        self.check(LOW, 2, 3, True, False)
        self.check(LOW, 0, None, True, False)
        self.check(LOW, 0, TWENTY, True, False)
        self.check(LOW, None, None, True, True)
        self.check(CHAIN, "checked", "done", True, False)
        self.check(SET, ("c", "a"), ("a",), True, False)
        self.check(SET, ("c",), ("a",), False, False)
        self.check(SET, ("c", "a"), (), True, False)
        self.check(DIAMOND, "top", "root", True, False)
        self.check(DIAMOND, "left", "right", False, False)
        self.check(TALL, "t", "o", True, False)
        self.check(TALL, "j", "c", False, False)
        self.check(ROW, (1, ("a",)), (1, ()), True, False)
        self.check(ROW, (1, ()), (0, ("a",)), False, False)
        self.check(NEWER, (2, "raw"), (1, "checked"), True, False)
        self.check(NEWER, (2, "done"), (2, "raw"), True, False)
        self.check(("newer", SET), (2, ("c",)), (2, ("a",)), False, False)


class Least(unittest.TestCase):
    def test_as_told(self):
        told = ((NUM, 0), (LOW, None), (CHAIN, "raw"), (SET, ()), (DIAMOND, "root"), (TALL, "o"), (LINE, "lo"),
                (ROW, (0, ())), (NEWER, (0, "raw")), (samples.ROW_IN_NEWER, (0, (None, "root"))),
                (samples.NEWER_IN_ROW, ((0, None), 0, (0, ()))), (samples.DEEP_NEWER, (0, (0, 0))),
                (samples.DEEP_ROW, ((0, None), "raw")), (samples.ROW_OF_ONE, ("root",)))
        self.assertEqual(len(told), len(samples.ORDERS))
        for order, height in told:
            self.assertTrue(same(least(order), height), order)

    def test_all_are_at_least_it(self):
        for order in samples.ORDERS:
            for height in samples.some_heights(order):
                self.assertTrue(is_at_least(order, height, least(order)))


class Joined(unittest.TestCase):
    def test_the_least_one_that_is_at_least_both(self):
        for order in samples.ORDERS:
            heights = samples.some_heights(order)
            for one in heights:
                for other in heights:
                    told = joined(order, one, other)
                    self.assertTrue(is_height(order, told), (order, one, other))
                    over = [h for h in heights if is_at_least(order, h, one) and is_at_least(order, h, other)]
                    self.assertIn(told, over)
                    self.assertTrue(all(is_at_least(order, h, told) for h in over), (order, one, other))

    def check(self, order, one, other, told):
        self.assertTrue(same(joined(order, one, other), told), (order, one, other))
        self.assertTrue(same(joined(order, other, one), told), (order, one, other))

    def test_as_told(self):
        self.check(NUM, TWENTY, 3, TWENTY)
        self.check(LOW, 4, 3, 3)
        self.check(LOW, None, 3, 3)
        self.check(LOW, 0, None, 0)
        self.check(LOW, None, None, None)
        self.check(CHAIN, "checked", "done", "checked")
        self.check(SET, ("a", "b"), ("c",), ("c", "a", "b"))
        self.check(SET, ("b",), ("c",), ("c", "b"))
        self.check(SET, (), (), ())
        self.check(DIAMOND, "left", "right", "top")
        self.check(DIAMOND, "left", "root", "left")
        self.check(TALL, "a", "b", "j")
        self.check(TALL, "b", "c", "t")
        self.check(ROW, (1, ("b",)), (2, ("c",)), (2, ("c", "b")))
        self.check(NEWER, (1, "checked"), (2, "raw"), (2, "raw"))
        self.check(NEWER, (2, "done"), (2, "raw"), (2, "done"))
        self.check(("newer", SET), (2, ("b",)), (2, ("a",)), (2, ("a", "b")))
        self.check(samples.ROW_IN_NEWER, (1, (5, "left")), (1, (6, "right")), (1, (5, "top")))
        self.check(samples.ROW_IN_NEWER, (1, (5, "left")), (0, (4, "right")), (1, (5, "left")))
        self.check(samples.NEWER_IN_ROW, ((1, None), 4, (2, ("a",))), ((1, 3), 5, (2, ("c",))),
                   ((1, 3), 5, (2, ("c", "a"))))
        self.check(samples.DEEP_NEWER, (1, (2, 3)), (1, (3, 0)), (1, (3, 0)))
        self.check(samples.DEEP_ROW, ((1, 3), "raw"), ((0, 2), "done"), ((1, 2), "done"))


class Met(unittest.TestCase):
    def test_the_greatest_one_that_both_are_at_least(self):
        for order in (NUM, LOW, CHAIN, SET):
            heights = samples.some_heights(order)
            for one in heights:
                for other in heights:
                    under = [h for h in heights if is_at_least(order, one, h) and is_at_least(order, other, h)]
                    told = greatest(order, under)
                    self.assertEqual(len(told), 1)
                    self.assertTrue(same(met(order, one, other), told[0]), (order, one, other))

    def test_as_told(self):
        self.assertEqual(met(NUM, 3, TWENTY), 3)
        self.assertEqual(met(LOW, 3, TWENTY), TWENTY)
        self.assertIsNone(met(LOW, 0, None))
        self.assertIsNone(met(LOW, None, 0))
        self.assertEqual(met(CHAIN, "checked", "done"), "done")
        self.assertEqual(met(SET, ("c", "a"), ("a", "b")), ("a",))
        self.assertEqual(met(SET, ("c", "a", "b"), ("c", "b")), ("c", "b"))
        self.assertEqual(met(SET, ("c",), ("a",)), ())


class Below(unittest.TestCase):
    def test_the_greatest_one_of_all_that_are_not_at_least_it(self):
        for order in samples.FLAT_ORDERS:
            # Of num and low two numbers more are looked through than are asked.
            for height in samples.some_heights(order):
                heights = samples.some_heights(order, 5)
                told = greatest(order, [h for h in heights if not is_at_least(order, h, height)])
                self.assertTrue(same(below(order, height), tuple(told)), (order, height))

    def test_of_num_and_low(self):
        self.assertEqual(below(NUM, 0), ())
        self.assertEqual(below(NUM, 1), (0,))
        self.assertEqual(below(NUM, TWENTY), (TWENTY - 1,))
        self.assertEqual(below(LOW, None), ())
        self.assertEqual(below(LOW, 0), (1,))
        self.assertEqual(below(LOW, TWENTY), (TWENTY + 1,))

    def test_of_chain(self):
        self.assertEqual(below(CHAIN, "raw"), ())
        self.assertEqual(below(CHAIN, "done"), ("raw",))
        self.assertEqual(below(CHAIN, "checked"), ("done",))

    def test_of_set(self):
        self.assertEqual(below(SET, ()), ())
        self.assertEqual(below(SET, ("a",)), (("c", "b"),))
        self.assertEqual(below(SET, ("c", "a")), ())
        self.assertEqual(below(SET, ("c", "a", "b")), ())
        self.assertEqual(below(("set", ("a",)), ("a",)), ((),))

    def test_of_web(self):
        self.assertEqual(below(DIAMOND, "root"), ())
        self.assertEqual(below(DIAMOND, "left"), ("right",))
        self.assertEqual(below(DIAMOND, "top"), ())
        self.assertEqual(below(LINE, "hi"), ("lo",))
        self.assertEqual(below(LINE, "lo"), ())
        self.assertEqual(below(TALL, "c"), ("j",))
        self.assertEqual(below(TALL, "a"), ())

    def test_of_row_and_newer(self):
        for order in samples.ORDERS[len(samples.FLAT_ORDERS):]:
            for height in samples.some_heights(order):
                self.assertTrue(same(below(order, height), ()), (order, height))


if __name__ == "__main__":
    unittest.main()
