import unittest

from onlyrise.roofs import bound_in, is_roof, is_under, joined_roofs, raised, widest
from onlyrise.standings import is_standing
from onlyrise.things import things_of
from tests import samples
from tests.samples import GROUND, NESTED_GROUND, OTHER_THINGS, same

ROOF = ((("b", "a", "b"), "*"), (("low",), 5), (("n", "b"), "*"), (("s", "a"), ("c", "b")), (("w",), "left"))


class IsRoof(unittest.TestCase):
    def right(self, thing, ground=GROUND):
        self.assertIs(is_roof(ground, thing), True, thing)

    def wrong(self, thing, ground=GROUND):
        self.assertIs(is_roof(ground, thing), False, thing)

    def test_right_ones(self):
        self.right(())
        self.right(ROOF)
        for thing in things_of(GROUND):
            self.right(((thing, "*"),))
        for thing in things_of(NESTED_GROUND):
            self.right(((thing, "*"),), NESTED_GROUND)
        self.right(((("n", "a"), samples.TWENTY), (("n", "b"), "*")))

    def test_a_standing_is_a_roof(self):
        standing = ((("b", "a", "b"), "done"), (("low",), 5), (("n", "b"), 3), (("s", "a"), ("c",)), (("w",), "top"))
        self.assertIs(is_standing(GROUND, standing), True)
        self.right(standing)

    def test_out_of_order_and_twice(self):
        self.wrong(((("n", "b"), "*"), (("n", "a"), "*")))
        self.wrong(((("n", "a"), "*"), (("n", "a"), "*")))
        self.wrong(((("n", "a"), 1), (("n", "a"), "*")))
        self.wrong(ROOF + ROOF[-1:])

    def test_least_and_other_bounds(self):
        for thing, bound in ((("n", "a"), 0), (("low",), None), (("b", "a", "a"), "raw"), (("s", "a"), ()),
                             (("w",), "root"), (("n", "a"), "**"), (("n", "a"), ""), (("n", "a"), ("*",)),
                             (("n", "a"), ["*"]), (("n", "a"), True), (("n", "a"), None), (("w",), "done"),
                             (("s", "a"), ("*",)), (("s", "a"), ["c"])):
            self.wrong(((thing, bound),))
        self.wrong(((("r",), ("*", ())),), NESTED_GROUND)
        self.wrong(((("r",), (0, ())),), NESTED_GROUND)

    def test_no_things(self):
        for thing in (("n", "A"), ("n",), ("n", "c"), ("x",), (), "n", ["n", "a"], None, 0):
            self.wrong(((thing, "*"),))
            self.wrong(((thing, 1),))

    def test_lists_and_other_shapes(self):
        self.wrong([])
        self.wrong(list(ROOF))
        self.wrong((list(ROOF[0]),))
        self.wrong((("n", "a"), "*"))
        self.wrong(((("n", "a"),),))
        self.wrong(((("n", "a"), "*", "*"),))
        self.wrong("*")
        self.wrong(("*",))

    def test_other_things(self):
        for thing in OTHER_THINGS:
            self.assertIs(is_roof(GROUND, thing), thing == () and isinstance(thing, tuple), thing)
            self.wrong((thing,))
            self.wrong(ROOF + (thing,))


class BoundIn(unittest.TestCase):
    def test_of_what_stands_there_and_what_does_not(self):
        for thing, bound in ROOF:
            self.assertTrue(same(bound_in(GROUND, ROOF, thing), bound))
        for thing, bound in ((("n", "a"), 0), (("b", "b", "a"), "raw"), (("s", "b"), ())):
            self.assertTrue(same(bound_in(GROUND, ROOF, thing), bound))
        for thing, bound in ((("low",), None), (("w",), "root")):
            self.assertTrue(same(bound_in(GROUND, (), thing), bound))


class Raised(unittest.TestCase):
    def check(self, roof, thing, bound, told):
        self.assertTrue(same(raised(GROUND, roof, thing, bound), told), (thing, bound))

    def test_by_heights(self):
        self.check(ROOF, ("low",), 6, ROOF)
        self.check(ROOF, ("low",), 5, ROOF)
        self.check(ROOF, ("low",), 4, ROOF[:1] + ((("low",), 4),) + ROOF[2:])
        self.check(ROOF, ("w",), "right", ROOF[:4] + ((("w",), "top"),))
        self.check(ROOF, ("n", "b"), samples.TWENTY, ROOF)
        self.check(ROOF, ("n", "a"), 2, ROOF[:2] + ((("n", "a"), 2),) + ROOF[2:])

    def test_by_no_bound(self):
        self.check(ROOF, ("n", "b"), "*", ROOF)
        self.check(ROOF, ("low",), "*", ROOF[:1] + ((("low",), "*"),) + ROOF[2:])
        self.check((), ("s", "b"), "*", ((("s", "b"), "*"),))

    def test_by_the_least_height(self):
        for thing, bound in ((("n", "a"), 0), (("low",), None), (("b", "a", "b"), "raw"), (("s", "b"), ()),
                             (("w",), "root")):
            self.check((), thing, bound, ())
            self.check(ROOF, thing, bound, ROOF)


class JoinedRoofs(unittest.TestCase):
    def check(self, one, other, told):
        self.assertTrue(same(joined_roofs(GROUND, one, other), told), (one, other))
        self.assertTrue(same(joined_roofs(GROUND, other, one), told), (one, other))

    def test_no_bound_with_each(self):
        thing = ("n", "a")
        self.check(((thing, "*"),), ((thing, "*"),), ((thing, "*"),))
        self.check(((thing, "*"),), ((thing, 3),), ((thing, "*"),))
        self.check(((thing, "*"),), (), ((thing, "*"),))
        self.check(((thing, 2),), ((thing, 3),), ((thing, 3),))
        self.check(((("w",), "left"),), ((("w",), "right"),), ((("w",), "top"),))

    def test_thing_by_thing(self):
        other = ((("b", "a", "a"), "done"), (("b", "a", "b"), "checked"), (("low",), "*"), (("s", "a"), ("a",)))
        self.check(ROOF, other, (
            (("b", "a", "a"), "done"), (("b", "a", "b"), "*"), (("low",), "*"), (("n", "b"), "*"),
            (("s", "a"), ("c", "a", "b")), (("w",), "left")))
        self.check(ROOF, (), ROOF)
        self.check(ROOF, ROOF, ROOF)
        self.check(ROOF, widest(GROUND), widest(GROUND))


class Widest(unittest.TestCase):
    def test_no_bound_for_each_thing(self):
        self.assertTrue(same(widest(GROUND), tuple((thing, "*") for thing in things_of(GROUND))))
        self.assertEqual(widest((("a",), (("h", 1, ("num",)), ("g", 0, ("low",))))), ((("g",), "*"), (("h", "a"), "*")))
        self.assertIs(is_roof(GROUND, widest(GROUND)), True)


class IsUnder(unittest.TestCase):
    def check(self, one, other, forth, back):
        self.assertIs(is_under(GROUND, one, other), forth)
        self.assertIs(is_under(GROUND, other, one), back)

    def test_bound_by_bound(self):
        thing = ("n", "a")
        self.check(((thing, 3),), ((thing, "*"),), True, False)
        self.check(((thing, "*"),), ((thing, "*"),), True, True)
        self.check((), ((thing, "*"),), True, False)
        self.check((), ((thing, 1),), True, False)
        self.check((), (), True, True)
        self.check(((thing, 3),), ((thing, 4),), True, False)
        self.check(((thing, 3),), ((thing, 3),), True, True)
        self.check(((("low",), 5),), ((("low",), 4),), True, False)
        self.check(((("w",), "left"),), ((("w",), "right"),), False, False)

    def test_thing_by_thing(self):
        self.check(((("n", "a"), 3),), ((("n", "b"), "*"),), False, False)
        self.check(((("n", "a"), 3), (("n", "b"), 1)), ((("n", "a"), 2), (("n", "b"), "*")), False, False)
        self.check(((("n", "a"), 3), (("n", "b"), 1)), ((("n", "a"), 3), (("n", "b"), "*")), True, False)
        self.check(ROOF, ROOF, True, True)
        self.check(ROOF, widest(GROUND), True, False)
        self.check(ROOF[:-1], ROOF, True, False)
        self.check(ROOF[1:], ROOF, True, False)


if __name__ == "__main__":
    unittest.main()
