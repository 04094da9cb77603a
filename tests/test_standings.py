import unittest

from onlyrise.standings import height_in, is_over, is_standing, joined_standings, lifted
from tests import samples
from tests.samples import GROUND, NESTED_GROUND, OTHER_THINGS, same

STANDING = ((("b", "a", "b"), "done"), (("low",), 5), (("n", "b"), 3), (("s", "a"), ("c", "b")), (("w",), "left"))


class IsStanding(unittest.TestCase):
    def right(self, thing, ground=GROUND):
        self.assertIs(is_standing(ground, thing), True, thing)

    def wrong(self, thing, ground=GROUND):
        self.assertIs(is_standing(ground, thing), False, thing)

    def test_right_ones(self):
        self.right(())
        self.right(STANDING)
        for entry in STANDING:
            self.right((entry,))
        self.right(((("n", "a"), 1), (("n", "b"), samples.TWENTY)))
        self.right(((("m", "x"), (0, "done")), (("p",), ((0, None), 1, (0, ()))), (("q", "x"), (1, (None, "root"))),
                    (("r",), (0, ("a",)))), NESTED_GROUND)

    def test_out_of_order_and_twice(self):
        self.wrong(((("n", "b"), 1), (("n", "a"), 1)))
        self.wrong(((("low",), 5), (("b", "a", "b"), "done")))
        self.wrong(((("n", "a"), 1), (("n", "a"), 1)))
        self.wrong(((("n", "a"), 1), (("n", "a"), 2)))
        self.wrong(STANDING + STANDING[-1:])
        self.wrong(STANDING[:3] + STANDING[1:2])

    def test_least_heights(self):
        for thing, height in ((("n", "a"), 0), (("low",), None), (("b", "a", "a"), "raw"), (("s", "a"), ()),
                              (("w",), "root")):
            self.wrong(((thing, height),))
        for thing, height in ((("r",), (0, ())), (("m", "x"), (0, "raw")), (("q", "x"), (0, (None, "root"))),
                              (("p",), ((0, None), 0, (0, ())))):
            self.wrong(((thing, height),), NESTED_GROUND)

    def test_heights_of_another_order(self):
        for thing, height in ((("n", "a"), "done"), (("n", "a"), None), (("n", "a"), True), (("n", "a"), -1),
                              (("low",), "left"), (("low",), True), (("b", "a", "a"), 1), (("s", "a"), ("b", "c")),
                              (("s", "a"), ["c"]), (("w",), "done"), (("n", "a"), (1,)), (("n", "a"), "*")):
            self.wrong(((thing, height),))

    def test_no_bound(self):
        for thing in (("n", "a"), ("low",), ("b", "a", "a"), ("s", "a"), ("w",)):
            self.wrong(((thing, "*"),))

    def test_no_things(self):
        for thing in (("n", "A"), ("n",), ("n", "c"), ("x",), (), "n", ("n", "a", "b"), ["n", "a"], None, 0, [["n"]]):
            self.wrong(((thing, 1),))
        self.wrong(((("b", "A", "b"), "done"),))

    def test_lists_and_other_shapes(self):
        self.wrong([])
        self.wrong(list(STANDING))
        self.wrong((list(STANDING[0]),))
        self.wrong(((["n", "a"], 1),))
        self.wrong((("n", "a"), 1))
        self.wrong(((("n", "a"),),))
        self.wrong(((("n", "a"), 1, 1),))
        self.wrong(((),))

    def test_other_things(self):
        for thing in OTHER_THINGS:
            self.assertIs(is_standing(GROUND, thing), thing == () and isinstance(thing, tuple), thing)
            self.wrong((thing,))
            self.wrong(STANDING + (thing,))
            self.wrong((thing,) + STANDING)


class HeightIn(unittest.TestCase):
    def test_of_what_stands_there(self):
        for thing, height in STANDING:
            self.assertTrue(same(height_in(GROUND, STANDING, thing), height))

    def test_of_what_does_not(self):
        for thing, height in ((("n", "a"), 0), (("b", "b", "a"), "raw"), (("s", "b"), ())):
            self.assertTrue(same(height_in(GROUND, STANDING, thing), height))
        for thing, height in ((("low",), None), (("w",), "root"), (("n", "F"), 0)):
            self.assertTrue(same(height_in(GROUND, (), thing), height))

    def test_of_spoken_things_as_they_are_written(self):
        spoken = ((("n", "A"), 4), (("n", "a"), 2))
        self.assertEqual(height_in(GROUND, spoken, ("n", "A")), 4)
        self.assertEqual(height_in(GROUND, spoken, ("n", "a")), 2)
        self.assertEqual(height_in(GROUND, spoken, ("n", "B")), 0)


class Lifted(unittest.TestCase):
    def check(self, standing, thing, height, told):
        self.assertTrue(same(lifted(GROUND, standing, thing, height), told), (thing, height))

    def test_by_a_lower_an_equal_and_a_higher_height(self):
        standing = ((("low",), 5), (("n", "b"), 3))
        self.check(standing, ("n", "b"), 2, standing)
        self.check(standing, ("n", "b"), 3, standing)
        self.check(standing, ("n", "b"), 4, ((("low",), 5), (("n", "b"), 4)))
        self.check(standing, ("low",), 6, standing)
        self.check(standing, ("low",), 4, ((("low",), 4), (("n", "b"), 3)))

    def test_by_the_least_one(self):
        for thing, height in ((("n", "a"), 0), (("low",), None), (("b", "a", "a"), "raw"), (("s", "a"), ()),
                              (("w",), "root")):
            self.check((), thing, height, ())
            self.check(STANDING, thing, height, STANDING)

    def test_joined_where_neither_is_at_least_the_other(self):
        self.check(((("w",), "left"),), ("w",), "right", ((("w",), "top"),))
        self.check(((("s", "a"), ("a",)),), ("s", "a"), ("c",), ((("s", "a"), ("c", "a")),))

    def test_where_it_comes_to_stand(self):
        self.check(STANDING, ("n", "a"), 7, STANDING[:2] + ((("n", "a"), 7),) + STANDING[2:])
        self.check(STANDING, ("b", "a", "a"), "checked", ((("b", "a", "a"), "checked"),) + STANDING)
        self.check(STANDING[:4], ("w",), "top", STANDING[:4] + ((("w",), "top"),))
        self.check((), ("n", "a"), 7, ((("n", "a"), 7),))

    def test_spoken_things(self):
        self.check(((("n", "a"), 2),), ("n", "A"), 3, ((("n", "A"), 3), (("n", "a"), 2)))
        self.check(((("n", "A"), 3), (("n", "a"), 2)), ("n", "A"), 9, ((("n", "A"), 9), (("n", "a"), 2)))


class JoinedStandings(unittest.TestCase):
    def check(self, one, other, told):
        self.assertTrue(same(joined_standings(GROUND, one, other), told), (one, other))
        self.assertTrue(same(joined_standings(GROUND, other, one), told), (one, other))

    def test_thing_by_thing(self):
        other = ((("low",), 4), (("n", "a"), 1), (("n", "b"), 2), (("s", "a"), ("a",)), (("w",), "right"))
        self.check(STANDING, other, (
            (("b", "a", "b"), "done"), (("low",), 4), (("n", "a"), 1), (("n", "b"), 3), (("s", "a"), ("c", "a", "b")),
            (("w",), "top")))

    def test_with_none_and_with_itself(self):
        self.check(STANDING, (), STANDING)
        self.check((), (), ())
        self.check(STANDING, STANDING, STANDING)

    def test_spoken_things(self):
        self.check(((("n", "A"), 3), (("n", "a"), 1)), ((("n", "A"), 2), (("n", "B"), 1)),
                   ((("n", "A"), 3), (("n", "B"), 1), (("n", "a"), 1)))


class IsOver(unittest.TestCase):
    def check(self, one, other, forth, back):
        self.assertIs(is_over(GROUND, one, other), forth)
        self.assertIs(is_over(GROUND, other, one), back)

    def test_either_way(self):
        self.check(STANDING, STANDING, True, True)
        self.check((), (), True, True)
        self.check(STANDING, (), True, False)
        self.check(((("n", "b"), 4),), ((("n", "b"), 3),), True, False)
        self.check(((("low",), 4),), ((("low",), 5),), True, False)
        self.check(((("n", "a"), 4),), ((("n", "b"), 3),), False, False)
        self.check(((("n", "a"), 4), (("n", "b"), 1)), ((("n", "a"), 3), (("n", "b"), 2)), False, False)
        self.check(((("w",), "left"),), ((("w",), "right"),), False, False)
        self.check(STANDING, STANDING[1:], True, False)
        self.check(STANDING, STANDING[:-1], True, False)

    def test_spoken_things(self):
        self.check(((("n", "A"), 4),), ((("n", "a"), 3),), False, False)
        self.check(((("n", "A"), 4), (("n", "a"), 3)), ((("n", "A"), 3),), True, False)

    def test_joined_is_over_both(self):
        other = ((("n", "a"), 1), (("w",), "right"))
        both = joined_standings(GROUND, STANDING, other)
        self.assertIs(is_over(GROUND, both, STANDING), True)
        self.assertIs(is_over(GROUND, both, other), True)


if __name__ == "__main__":
    unittest.main()
