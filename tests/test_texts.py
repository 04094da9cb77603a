import unittest

from onlyrise.texts import height_text, order_text, program_rows, roof_text, standing_text, thing_text
from tests import samples
from tests.samples import GROUND, LOW, NESTED_GROUND, NUM, same

ORDER_TEXTS = (
    (NUM, "num"), (LOW, "low"), (samples.CHAIN, "chain(raw,done,checked)"), (samples.SET, "set(c,a,b)"),
    (("set", ("one",)), "set(one)"), (samples.LINE, "web(hi,lo;lo<hi)"),
    (samples.DIAMOND, "web(top,left,right,root;root<left,root<right,left<top,right<top)"),
    (samples.ROW, "row(num;set(c,a,b))"), (samples.NEWER, "newer(chain(raw,done,checked))"),
    (("row", (NUM,)), "row(num)"), (("row", (NUM, LOW, NUM)), "row(num;low;num)"),
    (("row", (samples.LINE, NUM)), "row(web(hi,lo;lo<hi);num)"),
    (samples.DEEP_NEWER, "newer(newer(num))"),
    (samples.DEEP_ROW, "row(row(num;low);chain(raw,done,checked))"),
    (samples.NEWER_IN_ROW, "row(newer(low);num;newer(set(c,a)))"),
    (("newer", ("row", (LOW, samples.LINE))), "newer(row(low;web(hi,lo;lo<hi)))"),
)
HEIGHT_TEXTS = (
    (NUM, 0, "0"), (NUM, 10, "10"), (NUM, samples.TWENTY, "98765432109876543210"), (NUM, int("9" * 400), "9" * 400),
    (LOW, None, "-"), (LOW, 0, "0"), (LOW, 305, "305"), (samples.CHAIN, "done", "done"), (samples.DIAMOND, "top", "top"),
    (samples.SET, (), "-"), (samples.SET, ("a",), "a"), (samples.SET, ("c", "b"), "c+b"),
    (samples.SET, ("c", "a", "b"), "c+a+b"), (samples.ROW, (0, ()), "(0;-)"), (samples.ROW, (12, ("c", "a")), "(12;c+a)"),
    (("row", (NUM,)), (7,), "(7)"), (("row", (LOW, LOW, NUM)), (None, 1, 2), "(-;1;2)"),
    (samples.NEWER, (0, "raw"), "0:raw"), (samples.NEWER, (31, "checked"), "31:checked"),
    (("newer", LOW), (2, None), "2:-"), (("newer", samples.SET), (2, ()), "2:-"),
    (samples.DEEP_NEWER, (1, (20, 3)), "1:20:3"), (samples.ROW_IN_NEWER, (4, (None, "left")), "4:(-;left)"),
    (samples.NEWER_IN_ROW, ((1, None), 4, (2, ("c", "a"))), "(1:-;4;2:c+a)"),
    (samples.DEEP_ROW, ((1, None), "raw"), "((1;-);raw)"), (samples.ROW_OF_ONE, ("right",), "(right)"),
)
THING_TEXTS = (
    (("low",), "low"), (("n", "a"), "n.a"), (("b", "a", "b"), "b.a.b"), (("n", "A"), "n.A"), (("b", "F", "a"), "b.F.a"),
)
STANDING_TEXTS = (
    (GROUND, (), "-"), (GROUND, ((("n", "a"), 3),), "n.a=3"),
    (GROUND, ((("b", "a", "b"), "done"), (("low",), 5), (("n", "b"), 30), (("s", "a"), ("c", "b")), (("w",), "left")),
     "b.a.b=done,low=5,n.b=30,s.a=c+b,w=left"),
    (NESTED_GROUND, ((("m", "x"), (3, "raw")), (("p",), ((0, None), 1, (0, ()))), (("q", "x"), (1, (None, "top"))),
                     (("r",), (0, ("a", "b")))), "m.x=3:raw,p=(0:-;1;0:-),q.x=1:(-;top),r=(0;a+b)"),
)
ROOF_TEXTS = STANDING_TEXTS + (
    (GROUND, ((("low",), "*"),), "low=*"),
    (GROUND, ((("b", "a", "b"), "*"), (("low",), 5), (("n", "b"), "*")), "b.a.b=*,low=5,n.b=*"),
    (NESTED_GROUND, ((("p",), "*"), (("r",), (0, ("a",)))), "p=*,r=(0;a)"),
)


class Texts(unittest.TestCase):
    def test_orders(self):
        for order, text in ORDER_TEXTS:
            self.assertTrue(same(order_text(order), text), order_text(order))

    def test_heights(self):
        for order, height, text in HEIGHT_TEXTS:
            self.assertTrue(same(height_text(order, height), text), height_text(order, height))

    def test_things(self):
        for thing, text in THING_TEXTS:
            self.assertTrue(same(thing_text(thing), text), thing)

    def test_standings(self):
        for ground, standing, text in STANDING_TEXTS:
            self.assertTrue(same(standing_text(ground, standing), text), text)

    def test_roofs(self):
        for ground, roof, text in ROOF_TEXTS:
            self.assertTrue(same(roof_text(ground, roof), text), text)

    def test_one_word_each(self):
        for text in [row[-1] for row in ORDER_TEXTS + HEIGHT_TEXTS + THING_TEXTS + ROOF_TEXTS]:
            self.assertNotIn(" ", text)


HEADS = (("n", 1, NUM), ("low", 0, LOW), ("b", 2, samples.CHAIN), ("s", 1, samples.SET), ("q", 0, samples.ROW_IN_NEWER))
HEAD_ROWS = ["head n 1 num", "head low 0 low", "head b 2 chain(raw,done,checked)", "head s 1 set(c,a,b)",
             "head q 0 newer(row(low;web(top,left,right,root;root<left,root<right,left<top,right<top)))"]


def asked(times, leaf):
    """A tree with the leaf behind so many askings, and leaves without puts beside it."""
    tree = leaf
    for k in range(times):
        tree = ("ask", ("n", "A"), k + 1, tree, ("put", ()))
    return tree


RULES = (
    (("put", ()), "rule put 0"),
    (("put", ((("n", "A"), ("just", 3)),)), "rule put 1 n.A just 3"),
    (("put", ((("low",), ("just", None)), (("s", "b"), ("just", ())), (("q",), ("just", (2, (None, "top")))))),
     "rule put 3 low just - s.b just - q just 2:(-;top)"),
    (("put", ((("n", "a"), ("of", ("n", "B"))), (("low",), ("plus", ("low",), 1000)))),
     "rule put 2 n.a of n.B low plus low 1000"),
    (("put", ((("n", "a"), ("sum", ("n", "b"), ("n", "A"))), (("s", "A"), ("meet", ("s", "B"), ("s", "a"))))),
     "rule put 2 n.a sum n.b n.A s.A meet s.B s.a"),
    (("ask", ("b", "A", "b"), "done", ("put", ((("n", "A"), ("just", 1)),)), ("put", ())),
     "rule ask b.A.b done put 1 n.A just 1 put 0"),
    (("ask", ("s", "a"), ("c", "b"), ("put", ()),
      ("ask", ("q",), (1, (5, "left")), ("put", ((("low",), ("of", ("low",))),)), ("put", ()))),
     "rule ask s.a c+b put 0 ask q 1:(5;left) put 1 low of low put 0"),
    (asked(4, ("put", ((("n", "A"), ("just", 9)),))),
     "rule ask n.A 4 ask n.A 3 ask n.A 2 ask n.A 1 put 1 n.A just 9 put 0 put 0 put 0 put 0"),
)


class ProgramRows(unittest.TestCase):
    def check(self, program, rows):
        self.assertTrue(same(program_rows(program), rows), program_rows(program))

    def test_names_and_heads(self):
        self.check((("b", "a"), HEADS, ()), ["names b a"] + HEAD_ROWS)
        self.check((("one",), HEADS[:1], ()), ["names one", "head n 1 num"])

    def test_no_names(self):
        self.check(((), HEADS[1:2], ()), ["names", "head low 0 low"])

    def test_each_rule(self):
        for rule, row in RULES:
            self.check((("a", "b"), HEADS, (rule,)), ["names a b"] + HEAD_ROWS + [row])

    def test_rules_in_their_order(self):
        rules = tuple(rule for rule, row in RULES[:6])
        self.check((("a", "b"), HEADS, rules), ["names a b"] + HEAD_ROWS + [row for rule, row in RULES[:6]])

    def test_a_new_list_each_time(self):
        program = (("a", "b"), HEADS, ())
        program_rows(program).append("more")
        self.check(program, ["names a b"] + HEAD_ROWS)


if __name__ == "__main__":
    unittest.main()
