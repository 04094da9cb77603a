import unittest

from onlyrise.errors import NoText
from onlyrise.reading import read_height, read_order, read_program, read_roof, read_standing, read_thing
from onlyrise.standings import is_standing
from onlyrise.texts import height_text, order_text, program_rows, roof_text, standing_text, thing_text
from onlyrise.things import is_spoken, things_of
from tests import samples, test_texts
from tests.samples import GROUND, LOW, NESTED_GROUND, NUM, same

SIGNS = "azA019.,;:+<=*-() \n_"
NOTHING_RIGHT = ("", " ", "\n", "-", "*", "()", "(", ")", "(((((", ";", ",", "=", "<", ":", "+", ".", "none", "Num",
                 "NUM", "0", "newer(" * 3000, "(" * 5000 + ")" * 5000, "row(" * 2000 + "num" + ")" * 2000,
                 "newer(" * 2000 + "num" + ")" * 2000, "0:" * 2000 + "0", "chain(" * 2000 + "a,b" + ")" * 2000)


def changed(text):
    """The text with one sign fewer, one more, or another one, at every place."""
    found = []
    for place in range(len(text) + 1):
        found.append(text[:place] + text[place + 1:])
        for sign in SIGNS:
            found.append(text[:place] + sign + text[place:])
            found.append(text[:place] + sign + text[place + 1:])
    return found


class Refusals(unittest.TestCase):
    def refused(self, row, read, *handed):
        with self.assertRaises(NoText) as caught:
            read(*handed)
        self.assertIs(type(caught.exception), NoText)
        self.assertTrue(same(caught.exception.row, row), (caught.exception.row, handed))

    def read_again(self, read, written, text):
        """Whatever is read of the text is written as just that text; else it is refused."""
        try:
            told = read(text)
        except NoText as refusal:
            self.assertTrue(same(refusal.row, 0))
            return None
        self.assertEqual(written(told), text)
        return told


class Orders(Refusals):
    def test_read_as_the_very_same(self):
        for order, text in test_texts.ORDER_TEXTS:
            self.assertTrue(same(read_order(text), order), text)
        for order in samples.ORDERS:
            self.assertTrue(same(read_order(order_text(order)), order), order)

    def test_other_signs(self):
        for order, text in test_texts.ORDER_TEXTS:
            for other in changed(text):
                self.read_again(read_order, order_text, other)

    def test_no_order(self):
        for text in NOTHING_RIGHT + (
                "num ", " num", "num\n", "num()", "low(num)", "nums", "chain", "chain()", "chain(a)", "chain(a,a)",
                "chain(a,)", "chain(,a)", "chain(a, b)", "chain(a;b)", "chain(a,b", "chain(a,b))", "chain((a,b))",
                "chain(a,B)", "chain(a,b,c,d,e,f,g)", "Chain(a,b)", "chain (a,b)", "set()", "set(a,a)",
                "set(a,b,c,d,e,f)", "set(abcdefghi)", "set(-)", "web(a,b)", "web(a,b;)", "web(;a<b)", "web(a,b;a>b)",
                "web(a,b;a<b,a<b)", "web(a,b;a<b,b<a)", "web(a,b;a<c)", "web(a,b;a<a)", "web(a,b;a<b<a)", "web(a,b;a<b;)",
                "web(a,b,c;a<b)", "web(o,a,b;o<a,o<b)", "web(a,b;a)", "row()", "row(num;)", "row(;num)", "row(num,num)",
                "row(num;num;num;num)", "row(num;other)", "row(num", "row(num))", "row(num;(num))", "rownum", "newer()",
                "newer(num;num)", "newer(newer(newer(num)))", "row(row(row(num)))", "newer", "newer num", "newer:num",
                "row(row(num;num;num);num;num)", "row(newer(num);newer(num);newer(num))", "row(num);row(num)",
                "row(num);(num)", "(num)", "((num))", "other(a,b)", "other(num)", "num,low", "row(row(num);num))"):
            self.refused(0, read_order, text)

    def test_bounds(self):
        self.assertEqual(read_order("row(row(num;num;num);num)"), ("row", (("row", (NUM, NUM, NUM)), NUM)))
        self.assertEqual(read_order("chain(a,b,c,d,e,f)"), ("chain", tuple("abcdef")))


class Heights(Refusals):
    def test_read_as_the_very_same(self):
        for order, height, text in test_texts.HEIGHT_TEXTS:
            self.assertTrue(same(read_height(order, text), height), text)
        for order in samples.ORDERS:
            for height in samples.some_heights(order):
                self.assertTrue(same(read_height(order, height_text(order, height)), height), (order, height))

    def test_other_signs(self):
        for order, height, text in test_texts.HEIGHT_TEXTS:
            if len(text) < 50:
                for other in changed(text):
                    self.read_again(lambda given: read_height(order, given),
                                    lambda told: height_text(order, told), other)

    def test_how_many_figures(self):
        for order, ahead, behind in ((NUM, "", ""), (LOW, "", ""), (("newer", NUM), "0:", ""), (("newer", NUM), "", ":0"),
                                     (("row", (LOW, NUM)), "(-;", ")")):
            for figures in ("1" + "0" * 399, "9" * 400):
                text = ahead + figures + behind
                self.assertEqual(height_text(order, read_height(order, text)), text)
            for figures in ("1" + "0" * 400, "9" * 401, "9" * 5000, "0" * 400, "0" + "9" * 399):
                self.refused(0, read_height, order, ahead + figures + behind)

    def test_no_number(self):
        for order in (NUM, LOW):
            for text in ("", " ", "00", "01", "007", "-1", "+1", "1.0", "1e3", "1_0", "0x1", " 1", "1 ", "1\n", "\n1", "one",
                         "*", "None", "True", "--", "1,0", "1:0", "(1)"):
                self.refused(0, read_height, order, text)
        self.refused(0, read_height, NUM, "-")

    def test_no_height(self):
        for order, texts in (
                (samples.CHAIN, ("other", "raw ", "raw,done", "raw+done", "0", "-", "Raw", "*")),
                (samples.DIAMOND, ("other", "top<left", "0", "-", "to", "topp")),
                (samples.SET, ("a+c", "c+c", "c+", "+c", "c++a", "x", "c+x", "c,a", "()", "--", "-+c", "c+-", "0", "cab")),
                (samples.ROW, ("0;-", "(0)", "(0;-;0)", "(0;-", "0;-)", "(0,-)", "(;-)", "(0;)", "((0;-))", "(00;-)",
                               "(-;0)", "(0;-) ", "(0; -)", "(0;b+c)", "(0);(-)", "(0;-)(0;-)")),
                (("row", (NUM,)), ("0", "()", "(0;)", "(0;0)", "((0))", "(-)", "0)", "(0")),
                (samples.NEWER, ("raw", "0", ":raw", "0:", "0raw", "00:raw", "-:raw", "0:other", "0::raw", "0:0:raw",
                                 "(0:raw)", "0;raw", "raw:0", "0: raw")),
                (samples.DEEP_NEWER, ("1:2", "1:2:3:4", "1:(2:3)", "1", ":1:2", "1::2")),
                (samples.DEEP_ROW, ("(1;-;raw)", "((1;-);raw", "(1;-);raw", "((1;-;raw))", "((1);raw)", "((1;-))",
                                    "(1;-);(raw)")),
                (("row", (("row", (NUM,)), ("row", (NUM,)))), ("(1);(2)", "((1);2)", "((1;2))", "((1)(2))"))):
            for text in texts:
                self.refused(0, read_height, order, text)

    def test_nothing_right(self):
        right = {NUM: ("0",), LOW: ("0", "-"), samples.SET: ("-",)}
        for order in samples.ORDERS:
            for text in NOTHING_RIGHT:
                if text not in right.get(order, ()):
                    self.refused(0, read_height, order, text)


class Things(Refusals):
    def test_read_as_the_very_same(self):
        for thing, text in test_texts.THING_TEXTS:
            self.assertTrue(same(read_thing(GROUND, text), thing), text)
        for ground in (GROUND, NESTED_GROUND):
            for thing in things_of(ground):
                self.assertTrue(same(read_thing(ground, thing_text(thing)), thing))

    def test_other_signs(self):
        for thing, text in test_texts.THING_TEXTS:
            for other in changed(text):
                told = self.read_again(lambda given: read_thing(GROUND, given), thing_text, other)
                self.assertTrue(told is None or is_spoken(GROUND, told))

    def test_no_spoken_thing(self):
        for text in NOTHING_RIGHT + ("n", "n.", ".n", "n.c", "n.a.a", "n..a", "n.a.", ".n.a", "n a", "n,a", "low.a", "low.",
                                     "b.a", "b.a.b.a", "x", "a", "A", "n.G", "n.AB", "N.a", "n.a ", " n.a", "n.a\n", "n.0"):
            self.refused(0, read_thing, GROUND, text)


class StandingsAndRoofs(Refusals):
    def test_read_as_the_very_same(self):
        for ground, standing, text in test_texts.STANDING_TEXTS:
            self.assertTrue(same(read_standing(ground, text), standing), text)
        for ground, roof, text in test_texts.ROOF_TEXTS:
            self.assertTrue(same(read_roof(ground, text), roof), text)

    def test_other_signs(self):
        for ground, roof, text in test_texts.ROOF_TEXTS:
            for other in changed(text):
                self.read_again(lambda given: read_roof(ground, given), lambda told: roof_text(ground, told), other)
                told = self.read_again(lambda given: read_standing(ground, given),
                                       lambda told: standing_text(ground, told), other)
                self.assertTrue(told is None or is_standing(ground, told))

    def test_neither(self):
        for text in [text for text in NOTHING_RIGHT if text != "-"] + [
                "n.a", "n.a=", "=1", "n.a=0", "low=-", "s.a=-", "w=root", "b.a.a=raw", "n.a=1,", ",n.a=1", "n.a=1,,n.b=1",
                "n.b=1,n.a=1", "n.a=1,n.a=1", "n.a=1,n.a=2", "n.a=01", "n.a=-", "n.a=x", "n.A=1", "n.c=1", "n=1", "x=1",
                "n.a=1;n.b=1", "n.a=1 ,n.b=1", "n.a=1, n.b=1", "n.a==1", "n.a=1=1", "n.a:1", "w=other", "-,n.a=1", "n.a=1,-",
                "--", "- ", "n.a=**", "n.a=*1", "n.A=*", "s.a=b+c", "n.a=" + "1" * 401, "n.a=1\n"]:
            self.refused(0, read_standing, GROUND, text)
            self.refused(0, read_roof, GROUND, text)

    def test_no_bound_is_for_roofs_alone(self):
        for text in ("n.a=*", "low=5,n.a=*", "low=*,n.a=3"):
            self.assertEqual(roof_text(GROUND, read_roof(GROUND, text)), text)
            self.refused(0, read_standing, GROUND, text)

    def test_numbers_of_four_hundred_figures(self):
        text = "n.a=" + "9" * 400
        self.assertEqual(read_standing(GROUND, text), ((("n", "a"), int("9" * 400)),))
        self.assertEqual(read_roof(GROUND, text), ((("n", "a"), int("9" * 400)),))


HEADS = ["names a b", "head n 1 num", "head low 0 low", "head b 2 chain(raw,done)", "head s 1 set(c,a)"]


class Programs(Refusals):
    def rule(self, text):
        return read_program(HEADS + ["rule " + text])[2][0]

    def rule_refused(self, text):
        self.refused(len(HEADS), read_program, HEADS + ["rule " + text])
        self.refused(len(HEADS) + 1, read_program, HEADS + ["rule put 0", "rule " + text, "rule put 0"])

    def test_written_and_read_again(self):
        rows = ["names a b"] + test_texts.HEAD_ROWS
        for rule, row in test_texts.RULES:
            told = read_program(rows + [row])
            self.assertTrue(same(told, (("a", "b"), test_texts.HEADS, (rule,))), row)
            self.assertEqual(program_rows(told), rows + [row])
        rules = tuple(rule for rule, row in test_texts.RULES)
        told = read_program(rows + [row for rule, row in test_texts.RULES])
        self.assertTrue(same(told, (("a", "b"), test_texts.HEADS, rules)))

    def test_without_rules_and_names(self):
        self.assertTrue(same(read_program(["names", "head n 0 num"]), ((), (("n", 0, NUM),), ())))
        self.assertTrue(same(read_program(["names a", "head a 1 low", "head b 2 num"]),
                             (("a",), (("a", 1, LOW), ("b", 2, NUM)), ())))

    def test_rows_that_lack(self):
        self.refused(0, read_program, [])
        self.refused(1, read_program, ["names a"])
        self.refused(1, read_program, ["names"])

    def test_another_first_word(self):
        self.refused(0, read_program, [""])
        for row in ("", " ", "name a", "Names a", "head n 0 num", "rule put 0", "namesa", " names a", "\n", "names\na"):
            self.refused(0, read_program, [row, "head n 0 num"])
        for row in ("", "names a", "heads n 0 num", "rule put 0", "Head n 0 num", " head n 0 num", "put 0", "other"):
            self.refused(1, read_program, ["names a", row])
            self.refused(1, read_program, ["names a", row, "head n 0 num"])
        for row in ("", "names a", "rules put 0", "Rule put 0", "put 0", " rule put 0", "other"):
            self.refused(5, read_program, HEADS + [row])
            self.refused(6, read_program, HEADS + ["rule put 0", row])
        self.refused(6, read_program, HEADS + ["rule put 0", "head x 0 num"])
        self.assertEqual(len(read_program(HEADS + ["head x 0 num"])[1]), 5)

    def test_the_first_row_goes(self):
        self.refused(1, read_program, ["names a", "head n 0 nums", "rule put", ""])
        self.refused(0, read_program, ["names A", "other"])
        self.refused(0, read_program, ["names A"])
        self.refused(1, read_program, ["names a", "head n"])

    def test_names_row(self):
        for row in ("names A", "names a ", "names  a", "names ", "names a  b", "names a B", "names abcdefghi", "names 0",
                    "names a,b", "names a.b", "names a\n"):
            self.refused(0, read_program, [row, "head n 0 num"])

    def test_heads_rows(self):
        for row in ("head", "head n", "head n 0", "head n 0 num num", "head n 0 num ", "head n  0 num", "head n 0  num",
                    "head N 0 num", "head abcdefghi 0 num", "head  0 num", "head n -1 num", "head n 00 num", "head n 01 num",
                    "head n x num", "head n  num", "head n 0 nums", "head n 0 chain(a)", "head n 0 chain(a, b)",
                    "head n 0 newer(newer(newer(num)))", "head 0 n num", "head n 0 -", "head n " + "1" * 401 + " num",
                    "head n 0 num\n", "head\nn 0 num"):
            self.refused(1, read_program, ["names a", row])
            self.refused(1, read_program, ["names a", row, "head m 0 num", "rule put 0"])
        self.refused(2, read_program, ["names a", "head n 0 num", "head n 0 num"])
        self.refused(3, read_program, ["names a", "head n 0 num", "head m 0 num", "head n 1 low", "other"])

    def test_trees(self):
        for text in ("", "put", "put ", "put x", "put -1", "put 00", "put 01", "put 0 ", "put  0", " put 0", "put 0 put 0",
                     "Put 0", "puts 0", "ask", "ask n.a", "ask n.a 1", "ask n.a 1 put 0", "ask n.a 1 put 0 put 0 put 0",
                     "ask n.a 1 put 0 put", "ask n.a 1 put 0 put 0 ", "ask n.a put 0 put 0", "ask n.a  1 put 0 put 0",
                     "asks n.a 1 put 0 put 0", "ask n.a 1 n.a just 1 put 0", "tell n.a 1 put 0 put 0",
                     "ask n.a 1 other put 0", "ask n.a 1 put 0 other", "put 1", "put 1 n.a", "put 1 n.a just",
                     "put 2 n.a just 1", "put 1 n.a just 1 n.b just 1", "put 0 n.a just 1", "put 1 n.a just 1 ",
                     "put " + "9" * 400 + " n.a just 1", "put " + "1" * 401, "put 1 n.a just 1\n"):
            self.rule_refused(text)
        self.refused(5, read_program, HEADS + ["rule"])

    def test_things(self):
        for thing in ("n", "n.c", "n.a.a", "x", "x.a", "n.G", "n.AB", "low.a", "", "n.", "*", "N.a", "a"):
            self.rule_refused(f"ask {thing} 1 put 0 put 0")
            self.rule_refused(f"ask n.a 1 ask {thing} 1 put 0 put 0 put 0")
            self.rule_refused(f"ask n.a 1 put 0 ask {thing} 1 put 0 put 0")
            self.rule_refused(f"put 1 {thing} just 1")
            for term in ("of", "plus", "sum", "meet"):
                self.rule_refused(f"put 1 {thing} {term} n.a 1")
            self.rule_refused(f"put 1 n.a of {thing}")
            self.rule_refused(f"put 1 n.a plus {thing} 1")
            for term in ("sum", "meet"):
                self.rule_refused(f"put 1 n.a {term} {thing} n.a")
                self.rule_refused(f"put 1 n.a {term} n.a {thing}")
        # Heads that come behind are not told yet, but rules come behind all heads.
        self.refused(1, read_program, ["names a", "rule put 1 n just 1", "head n 0 num"])

    def test_heights(self):
        for thing, heights in (("n.a", ("-", "01", "x", "-1", "", "1" * 401, "*")), ("low", ("x", "00", "*", "")),
                               ("b.a.A", ("other", "0", "-", "")), ("s.A", ("a+c", "c+c", "x", "0", "()", ""))):
            for height in heights:
                self.rule_refused(f"ask {thing} {height} put 0 put 0")
                self.rule_refused(f"put 1 {thing} just {height}")
                self.rule_refused(f"put 2 n.a just 1 {thing} just {height}")

    def test_terms(self):
        for term in ("", "1", "just", "just 1 1", "of", "of n.a n.a", "of 1", "plus n.a", "plus n.a x", "plus n.a -1",
                     "plus n.a 01", "plus n.a 1 1", "plus 1 n.a", "plus n.a n.a", "plus n.a " + "1" * 401, "plus", "sum",
                     "sum n.a", "sum n.a 1", "sum n.a n.a n.a", "meet n.a", "meet n.a 1", "meet n.a n.a n.a", "meet",
                     "Just 1", "justs 1", "join n.a n.a", "put 0", "just  1", "of  n.a"):
            self.rule_refused("put 1 n.a " + term)

    def test_five_trees_within_one_another_and_six(self):
        for times in range(8):
            ahead = "ask n.a 1 " * times + "put 0" + " put 0" * times
            behind = "ask n.a 1 put 0 " * times + "put 0"
            between = "ask n.a 1 put 0 " * (times // 2) + "ask n.a 1 " * (times - times // 2) + "put 0"
            between = between + " put 0" * (times - times // 2)
            for text in (ahead, behind, between):
                if times <= 4:
                    self.assertEqual(program_rows((("a", "b"), read_program(HEADS)[1], (self.rule(text),)))[-1],
                                     "rule " + text)
                else:
                    self.rule_refused(text)
        self.rule_refused("ask n.a 1 " * 150)

    def test_what_is_not_looked_at_is_read(self):
        told = read_program(["names " + " ".join("abcdefgha"), "head n 0 num"])
        self.assertEqual(told[0], tuple("abcdefgha"))
        self.assertEqual(read_program(["names a a", "head n 0 num"])[0], ("a", "a"))
        many = ["head " + "abcdefgh"[k] + " " + str(k) + " num" for k in range(8)]
        told = read_program(["names a"] + many + ["rule put 0"] * 9 + ["rule put 1 d.a.a.A just 0"])
        self.assertEqual([head[1] for head in told[1]], list(range(8)))
        self.assertEqual(len(told[2]), 10)
        self.assertEqual(told[2][9], ("put", ((("d", "a", "a", "A"), ("just", 0)),)))
        self.assertEqual(read_program(["names a", "head n " + "9" * 400 + " num"])[1][0][1], int("9" * 400))
        # More leaves, puts and marks than a right rule has.
        tree = "ask n.A 1 ask n.B 1 ask n.C 1 ask n.D 1 put 0 put 0 put 0 ask n.E 1 put 0 put 0"
        tree = tree + " ask n.a 1 ask n.F 1 ask n.b 1 put 0 put 0 put 0 ask n.A 2 put 0 put 0"
        self.assertEqual(program_rows((("a", "b"), read_program(HEADS)[1], (self.rule(tree),)))[-1], "rule " + tree)
        self.assertEqual(len(self.rule("put 9" + " n.a just 1" * 9)[1]), 9)
        # Least heights.
        self.assertEqual(self.rule("ask n.a 0 put 1 low just - put 0"),
                         ("ask", ("n", "a"), 0, ("put", ((("low",), ("just", None)),)), ("put", ())))
        # Terms of other orders, and great numbers.
        self.assertEqual(self.rule("put 4 n.a of low n.a plus b.a.A 1001 s.a sum s.a n.a b.A.A meet low low"), ("put", (
            (("n", "a"), ("of", ("low",))), (("n", "a"), ("plus", ("b", "a", "A"), 1001)),
            (("s", "a"), ("sum", ("s", "a"), ("n", "a"))), (("b", "A", "A"), ("meet", ("low",), ("low",))))))
        self.assertEqual(self.rule("put 1 n.a plus n.a " + "9" * 400)[1][0][1][2], int("9" * 400))

    def test_no_names_but_marks(self):
        rows = ["names", "head n 1 num", "rule put 1 n.A just 1"]
        self.assertEqual(program_rows(read_program(rows)), rows)
        self.refused(2, read_program, rows[:2] + ["rule put 1 n.a just 1"])

    def test_rows_handed_in_stay_unchanged(self):
        rows = HEADS + ["rule ask n.a 1 put 1 low just 3 put 0"]
        former = list(rows)
        read_program(rows)
        self.assertEqual(rows, former)
        wrong = HEADS + ["rule put 1 n.a"]
        former = list(wrong)
        self.refused(5, read_program, wrong)
        self.assertEqual(wrong, former)

    def test_other_signs(self):
        for k in range(len(HEADS) + 2):
            rows = HEADS + ["rule ask n.A 3 put 1 low just - ask s.b c+a put 0 put 1 b.a.B of b.B.B",
                            "rule put 3 n.a plus n.B 10 n.b sum n.a n.b n.a meet n.C n.a"]
            for row in changed(rows[k]):
                given = rows[:k] + [row] + rows[k + 1:]
                try:
                    told = read_program(given)
                except NoText as refusal:
                    self.assertGreaterEqual(refusal.row, k)
                else:
                    self.assertEqual(program_rows(told), given)


if __name__ == "__main__":
    unittest.main()
