import random
import unittest

from onlyrise.askings import holds
from onlyrise.desk import Desk
from onlyrise.ended import finish, is_ended
from onlyrise.ends import end_of, least_closed
from onlyrise.errors import NoDeed, NoLine, NoProgram, NoText
from onlyrise.halls import deed_done, first_hall, put_in, standing_of
from onlyrise.looks import hand_word, look
from onlyrise.parting import verdict
from onlyrise.reading import read_program
from onlyrise.roofs import widest
from onlyrise.texts import height_text, program_rows, roof_text, standing_text, thing_text
from onlyrise.things import order_of
from tests.rules import NOTHING, X, Y, Z, ask, just, n, program, put, refusal, small, some_asking, some_deed, some_program, some_roof
from tests.samples import same

ROWS = ["names b a", "head n 1 num", "head low 1 low", "head c 0 chain(raw,done)", "head s 0 set(c,a,b)", "head r 0 row(num;low)",
        "rule ask n.A 2 put 1 n.B of n.A put 0", "rule ask s a+b put 1 c just done put 0"]
BEGIN = "\n".join(["begin 2"] + ROWS)
QUESTIONS = ("standing 0", "roof 0", "letters", "ended", "verdict", "end", "finish")


def begin(given, many):
    return "\n".join([f"begin {many}"] + program_rows(given))


def asking_words(ground, asking):
    if asking[0] == "least":
        return ["least", thing_text(asking[1]), height_text(order_of(ground, asking[1]), asking[2])]
    return [asking[0]] + [word for part in asking[1:] for word in asking_words(ground, part)]


def asking_text(ground, asking):
    return " ".join(asking_words(ground, asking))


class Checked(unittest.TestCase):
    def desk(self, *lines):
        desk = Desk()
        for line in lines:
            self.assertIs(type(desk.say(line)), str)
        return desk

    def says(self, desk, *told):
        for line, answer in told:
            said = refusal(desk.say, line)
            self.assertTrue(same(said, (None, answer)), (line, said))

    def refused(self, desk, *lines):
        ahead = [desk.say(line) for line in QUESTIONS]
        for line in lines:
            self.assertEqual(refusal(desk.say, line), (NoLine, (line,)), line)
        self.assertEqual([desk.say(line) for line in QUESTIONS], ahead)

    def no_deed(self, desk, *lines):
        ahead = [desk.say(line) for line in QUESTIONS]
        for line in lines:
            self.assertEqual(refusal(desk.say, line), (NoDeed, (0,)), line)
        self.assertEqual([desk.say(line) for line in QUESTIONS], ahead)


class FirstDesk(Checked):
    def test_at_first(self):
        self.says(Desk(), ("standing 0", "-"), ("roof 0", "a=*"), ("letters", "0"), ("ended", "yes"), ("verdict", "one"), ("end", "-"),
                  ("finish", "yes"), ("word 0 least a 0", "yes"), ("word 0 least a 1", "open"), ("holds 0 least a 1", "no"))
        self.says(Desk(), ("put 0 a 5", "ok"), ("standing 0", "a=5"), ("end", "a=5"), ("send 0 a", "0"), ("letters", "1"), ("come 0 0", "ok"))

    def test_no_more_than_that(self):
        self.refused(Desk(), "standing 1", "put 1 a 5", "put 0 b 5", "put 0 a.a 5", "do 0 0", "come 0 0", "tell 0 1")


class Deeds(Checked):
    def test_put_do_send_come(self):
        desk = self.desk(BEGIN)
        self.says(desk, ("put 0 n.a 3", "ok"), ("standing 0", "n.a=3"), ("standing 1", "-"), ("send 0 n.a", "0"), ("send 0 n.b", "1"),
                  ("letters", "2"), ("come 1 0", "ok"), ("standing 1", "n.a=3"), ("do 1 0 a b", "ok"), ("standing 1", "n.a=3,n.b=3"),
                  ("put 1 s a+b", "ok"), ("do 1 1", "ok"), ("standing 1", "c=done,n.a=3,n.b=3,s=a+b"), ("come 1 1", "ok"),
                  ("send 1 s", "2"), ("come 0 2", "ok"), ("standing 0", "n.a=3,s=a+b"), ("letters", "3"))

    def test_least_heights_too(self):
        desk = self.desk(BEGIN)
        self.says(desk, ("put 0 n.a 0", "ok"), ("put 0 low.b -", "ok"), ("put 0 c raw", "ok"), ("put 0 s -", "ok"), ("put 0 r (0;-)", "ok"),
                  ("standing 0", "-"), ("put 0 r (3;-)", "ok"), ("put 0 low.b 7", "ok"), ("standing 0", "low.b=7,r=(3;-)"))

    def test_great_heights(self):
        number = "9" * 400
        desk = self.desk(BEGIN)
        self.says(desk, ("put 0 n.a " + number, "ok"), ("standing 0", "n.a=" + number))
        self.refused(desk, "put 0 n.a 1" + number)

    def test_caps(self):
        desk = self.desk(BEGIN)
        ground = read_program(ROWS)[:2]
        self.says(desk, ("cap 0 n.a=3,s=*", "ok"), ("roof 0", roof_text(ground, widest(ground))), ("roof 1", roof_text(ground, widest(ground))),
                  ("tell 0 0", "0"), ("cap 1 -", "ok"), ("come 1 0", "ok"), ("roof 1", "n.a=3,s=*"), ("tell 1 0", "1"), ("tell 1 1", "2"),
                  ("come 0 2", "ok"), ("roof 0", "n.a=3,s=*"), ("cap 0 n.a=2", "ok"), ("roof 0", "n.a=2"), ("roof 1", "n.a=3,s=*"), ("letters", "3"))

    def test_refused_as_the_deed_is(self):
        desk = self.desk(BEGIN)
        self.no_deed(desk, "tell 0 0", "tell 0 1", "tell 1 0")
        self.says(desk, ("cap 0 n.a=3", "ok"), ("put 0 n.a 2", "ok"))
        self.no_deed(desk, "put 0 n.a 4", "put 0 n.b 1", "cap 0 n.a=4", "cap 0 n.a=1", "cap 0 n.a=*", "cap 0 -", "tell 0 1", "tell 1 0")
        self.says(desk, ("put 0 n.a 3", "ok"), ("tell 0 0", "0"), ("put 1 n.a 4", "ok"))
        self.no_deed(desk, "cap 1 n.a=3", "tell 1 1")


class Questions(Checked):
    def test_ended_and_finish(self):
        desk = self.desk(BEGIN)
        self.says(desk, ("ended", "yes"), ("finish", "yes"), ("put 0 n.a 3", "ok"), ("ended", "no"), ("finish", "yes"), ("standing 1", "-"),
                  ("letters", "0"), ("do 0 0 a b", "ok"), ("send 0 n.a", "0"), ("send 0 n.b", "1"), ("come 1 0", "ok"), ("ended", "no"),
                  ("come 1 1", "ok"), ("ended", "yes"), ("finish", "yes"))
        desk = self.desk(begin(small(put((X, ("plus", X, 1)))), 1))
        self.says(desk, ("ended", "no"), ("finish", "no"), ("standing 0", "-"))
        for most, told in ((39, "yes"), (40, "no")):
            self.says(self.desk(begin(small(ask(X, most, NOTHING, put((X, ("plus", X, 1))))), 2)), ("finish", told))

    def test_end(self):
        desk = self.desk(BEGIN)
        self.says(desk, ("end", "-"), ("put 0 n.a 3", "ok"), ("put 1 s a", "ok"), ("end", "n.a=3,n.b=3,s=a"), ("put 0 s b", "ok"),
                  ("end", "c=done,n.a=3,n.b=3,s=a+b"), ("standing 0", "n.a=3,s=b"))
        growing = ask(Y, 1, put((X, ("plus", X, 1))), NOTHING)
        doubling = ask(Y, 1, put((X, ("sum", X, X))), NOTHING)
        self.says(self.desk(begin(small(growing), 1)), ("end", "-"), ("put 0 y 1", "ok"), ("end", "endless"))
        self.says(self.desk(begin(small(doubling), 1)), ("put 0 x 1", "ok"), ("end", "x=1"), ("put 0 y 1", "ok"), ("end", "open"))
        # Of what was put in, not of what hands stand at.
        desk = self.desk(begin(small(ask(X, 1, NOTHING, put(just(Y, 2)))), 1))
        self.says(desk, ("do 0 0", "ok"), ("put 0 x 1", "ok"), ("standing 0", "x=1,y=2"), ("end", "x=1"))

    def test_verdict(self):
        self.says(self.desk(BEGIN), ("verdict", "one"))
        self.says(self.desk(begin(small(ask(X, 1, NOTHING, put(just(Y, 2)))), 1)), ("verdict", "parts"))
        self.says(self.desk(begin(small(ask(X, 1, put((Y, ("sum", Z, Z))), put((Y, ("of", Z))))), 3)), ("verdict", "open"))
        self.says(self.desk(begin(small(ask(X, 1, NOTHING, put(just(Y, 2))), put(just(Y, 2))), 1)), ("verdict", "open"))

    def test_word(self):
        desk = self.desk(BEGIN, "put 0 n.a 3")
        self.says(desk, ("word 0 least n.b 3", "yes"), ("word 1 least n.b 3", "open"), ("word 0 least n.b 4", "open"),
                  ("word 0 not least n.b 3", "no"), ("word 0 both least n.b 3 least n.b 4", "open"), ("word 0 either least n.b 4 least n.b 3", "yes"))
        for line in ("cap 0 n.a=3", "tell 0 0", "cap 1 n.b=2,s=a", "tell 1 1", "come 0 1", "come 1 0"):
            desk.say(line)
        self.says(desk, ("word 0 least n.b 4", "no"), ("word 1 least n.b 4", "no"), ("word 1 least n.b 3", "open"), ("word 1 least c done", "no"),
                  ("word 0 both not least c done least n.b 3", "yes"), ("word 1 either not least c done least n.b 3", "yes"))

    def test_word_by_the_plain_way(self):
        # The roof of just twelve rounds that rise has a bound, that of thirteen none.
        for most, told in ((12, "no"), (13, "open")):
            given = small(ask(Y, 1, ask(X, most, NOTHING, put((X, ("plus", X, 1)))), NOTHING))
            self.says(self.desk(begin(given, 1), "cap 0 y=1"), (f"word 0 least x {most + 1}", told))

    def test_holds(self):
        desk = self.desk(BEGIN, "put 0 n.a 3", "put 0 s c+b")
        self.says(desk, ("holds 0 least n.a 3", "yes"), ("holds 0 least n.a 4", "no"), ("holds 1 least n.a 3", "no"), ("holds 0 least n.b 3", "no"),
                  ("holds 0 not least n.b 3", "yes"), ("holds 0 both least s b not least s a", "yes"), ("holds 0 least s a+b", "no"),
                  ("holds 1 either least c raw least c done", "yes"), ("holds 1 least r (0;-)", "yes"), ("holds 1 least r (0;5)", "no"),
                  ("holds 0 both either least n.a 4 least s b not both least s a least s b", "yes"))

    def test_askings_at_their_bounds(self):
        desk = self.desk(BEGIN)
        five = "not not not not least n.a 1"
        seven = "either both least n.a 1 least n.a 1 both least n.a 1 least n.a 1"
        twelve = "not both " + seven + " both least n.a 1 least n.a 1"
        self.says(desk, ("holds 0 " + five, "no"), ("holds 0 " + twelve, "yes"), ("word 0 " + twelve, "open"))
        self.refused(desk, "holds 0 not " + five, "word 0 not " + five, "holds 0 both " + seven + " both not least n.a 1 not least n.a 1",
                     "word 0 both " + seven + " " + seven, "holds 0 " + "not " * 400 + "least n.a 1")


class NoLines(Checked):
    GOOD = ("put 0 n.a 1", "do 0 0 a b", "do 1 1", "come 1 0", "cap 1 n.a=9", "send 0 n.a", "tell 0 0", "standing 1", "roof 1", "letters",
            "ended", "word 0 both least n.a 1 not least s a", "holds 0 least n.a 1", "verdict", "end", "finish")

    def test_good(self):
        for line in self.GOOD:
            self.assertIs(type(self.led().say(line)), str)

    def led(self):
        return self.desk(BEGIN, "put 0 n.a 1", "send 0 n.a", "cap 0 n.a=9")

    def test_blanks(self):
        for line in self.GOOD + ("begin 2",):
            self.refused(self.led(), " " + line, line + " ", line.replace(" ", "  ", 1) + " ", line + "  ")
            if " " in line:
                self.refused(self.led(), line.replace(" ", "  "), line.replace(" ", ""), line.replace(" ", "\n"))
            if not line.startswith("begin"):
                self.refused(self.led(), line + "\n", "\n" + line, line + "\n" + line, line + "\nnames a")
        self.refused(self.led(), "", " ", "\n", "\n\n")

    def test_words_too_many_or_lacking(self):
        for line in self.GOOD:
            words = line.split(" ")
            self.refused(self.led(), line + " 0", line + " n.a", line + " a", line + " " + line)
            for many in range(1, len(words)):
                self.refused(self.led(), " ".join(words[:many]))
        self.refused(self.led(), "do 0 0 a", "do 0 0", "do 0 0 a b a", "do 1 1 a", "begin", "begin 2 2", "begin 2 names a")

    def test_other_words(self):
        for line in self.GOOD:
            word = line.split(" ")[0]
            self.refused(self.led(), line.upper(), "x" + line, line.replace(word, word + "s", 1), line.replace(word, word[:-1], 1))
        self.refused(self.led(), "begins 2", "Begin 2", "hall", "0", "put,0,n.a,1", "rise 0 n.a 1", "many 1", "hand 0", "risen n.a 1", "-")

    def test_hands(self):
        for hand in ("2", "3", "9", "-1", "00", "01", "+0", "0.", "a", "-", "one", "0000000000", "1000000000", "9999999999", "999999999", "1" * 500, "*"):
            self.refused(self.led(), f"put {hand} n.a 1", f"do {hand} 1", f"come {hand} 0", f"cap {hand} n.a=9", f"send {hand} n.a", f"tell {hand} 0",
                         f"tell 0 {hand}", f"standing {hand}", f"roof {hand}", f"word {hand} least n.a 1", f"holds {hand} least n.a 1")

    def test_hands_of_this_hall(self):
        for many in range(1, 5):
            desk = self.desk("\n".join([f"begin {many}"] + ROWS))
            self.says(desk, (f"standing {many - 1}", "-"))
            self.refused(desk, f"standing {many}", f"tell {many} 0", f"tell 0 {many}")

    def test_things(self):
        for thing in ("n", "n.A", "n.c", "n.a.b", "n.", ".n", "n.a.", "x", "N.a", "c.a", "n.a=1", "n,a", "-", "*"):
            self.refused(self.led(), f"put 0 {thing} 1", f"send 0 {thing}", f"word 0 least {thing} 1", f"holds 0 least {thing} 1", f"cap 0 {thing}=1")

    def test_heights(self):
        for thing, heights in (("n.a", ("-", "-1", "01", "a", "*", "1.0", "+1", "1" * 401)), ("low.a", ("--", "*", "01", "a")),
                               ("c", ("0", "-", "rawer", "Raw", "*")), ("s", ("a+c", "a+a", "d", "a,b", "*", "+", "a+")),
                               ("r", ("0", "(0)", "(0;0;0)", "(-;0)", "0;0", "(0;0", "(;)", "*"))):
            for height in heights:
                self.refused(self.led(), f"put 0 {thing} {height}", f"word 0 least {thing} {height}", f"holds 0 not least {thing} {height}")

    def test_cases(self):
        self.refused(self.led(), "do 0 2", "do 0 2 a b", "do 0 -1", "do 0 a", "do 0 00 a b", "do 0 01", "do 0 0 a c", "do 0 0 a A", "do 0 0 a.b",
                     "do 0 0 a,b", "do 0 0 ab", "do 0 1000000000", "do 0 1 -", "do 0 (0,()) a b", "do 0 0 A B")

    def test_letters(self):
        self.refused(self.led(), "come 0 1", "come 0 -1", "come 0 00", "come 0 a", "come 0 1000000000", "come 0 0000000000", "come 0 9999999999")
        desk = self.led()
        self.says(desk, ("send 0 n.b", "1"), ("come 0 1", "ok"))
        self.refused(desk, "come 0 2", "come 0 01")
        desk = self.desk(BEGIN, *["send 0 n.a"] * 12)
        self.says(desk, ("come 1 10", "ok"), ("come 1 11", "ok"), ("send 0 n.a", "12"))
        self.refused(desk, "come 1 13", "come 1 010")

    def test_roofs(self):
        self.refused(self.led(), "cap 1 *", "cap 1 n.a", "cap 1 n.a=", "cap 1 n.a=0", "cap 1 n.A=1", "cap 1 n.b=1,n.a=1", "cap 1 n.a=1,n.a=1",
                     "cap 1 n.a=1,", "cap 1 ,n.a=1", "cap 1 n.a=1, n.b=1", "cap 1 n.a=01", "cap 1 c=*,n.a=**", "cap 1 --", "cap 1 x=1", "cap 1 n.a=-")

    def test_askings(self):
        self.refused(self.led(), *[f"{word} 0 {asking}" for word in ("word", "holds") for asking in (
            "n.a 1", "least", "least n.a", "both least n.a 1", "either least n.a 1", "not", "not least n.a", "both", "least n.a 1 least n.a 1",
            "not least n.a 1 least n.a 1", "both least n.a 1 least n.a 1 least n.a 1", "and least n.a 1 least n.a 1", "not not", "Least n.a 1",
            "most n.a 1", "(least n.a 1)", "least n.a=1", "both not least n.a 1", "open", "yes")])

    def test_ahead_of_all_else(self):
        # Each of these would be refused as a deed, too, were it one.
        desk = self.led()
        self.no_deed(desk, "put 0 n.a 10", "cap 0 n.a=10", "tell 0 1")
        self.refused(desk, "put 0 n.a 10 ", "put 0 n.a 010", "cap 0 n.a=10,", "tell 0 01", "tell 0 2", "tell 00 1")
        self.refused(desk, "begin 0\nnames", "begin 5\nrule", "begin\n" + "\n".join(ROWS), "begin 2 \nnames", "begin 02\n" + "\n".join(ROWS))


class Begin(Checked):
    def test_with_rows(self):
        for many in range(1, 5):
            desk = Desk()
            self.says(desk, ("\n".join([f"begin {many}"] + ROWS), "ok"), (f"put {many - 1} n.a 2", "ok"), ("end", "n.a=2,n.b=2"))
        # Anew: what stood there before is gone.
        desk = self.desk(BEGIN, "put 0 n.a 3", "send 0 n.a", "cap 0 n.a=4")
        self.says(desk, (BEGIN, "ok"), ("standing 0", "-"), ("letters", "0"), ("end", "-"), ("put 0 n.a 9", "ok"))

    def test_another_program(self):
        desk = self.desk(BEGIN)
        self.says(desk, ("begin 1\nnames z\nhead q 1 num", "ok"), ("put 0 q.z 4", "ok"), ("standing 0", "q.z=4"))
        self.refused(desk, "put 0 n.a 1", "standing 1", "do 0 0 a b")

    def test_how_many_hands(self):
        for many in ("0", "5", "6", "-1", "01", "00", "a", "", "1.", "1 1", "1000000000", "0000000001", "one", "*"):
            self.refused(self.desk(BEGIN), f"begin {many}", f"begin {many}\n" + "\n".join(ROWS), f"begin {many}\nrule put 0")

    def kept(self, line, told):
        desk = self.desk(BEGIN, "put 0 n.a 3", "send 0 n.a", "cap 1 n.a=4")
        ahead = [desk.say(question) for question in QUESTIONS]
        self.assertEqual(refusal(desk.say, line), told, line)
        self.assertEqual([desk.say(question) for question in QUESTIONS], ahead)
        self.says(desk, ("come 1 0", "ok"), ("do 1 0 a b", "ok"), ("standing 1", "n.a=3,n.b=3"))
        self.no_deed(desk, "put 1 n.a 5")

    def test_no_rows(self):
        for many in range(1, 5):
            self.kept(f"begin {many}", (NoText, (0,)))
        self.kept("begin 2\n", (NoText, (0,)))
        self.kept("begin 2\nnames a", (NoText, (1,)))
        self.kept("begin 2\nnames a\n", (NoText, (1,)))

    def test_no_text(self):
        self.kept("begin 2\nhead n 1 num", (NoText, (0,)))
        self.kept("begin 2\nnames a\nrule put 0", (NoText, (1,)))
        self.kept("begin 2\nnames a\nhead n 1 num\nhead n 1 num", (NoText, (2,)))
        self.kept("begin 2\nnames a\nhead n 1 num\nrule put 1 n.A just -", (NoText, (2,)))
        self.kept("\n".join(["begin 2"] + ROWS + [""]), (NoText, (len(ROWS),)))
        self.kept("\n".join(["begin 2"] + ROWS + ["head x 0 num"]), (NoText, (len(ROWS),)))
        self.kept("\n".join(["begin 2", ""] + ROWS), (NoText, (0,)))
        self.kept("begin 2\nbegin 2", (NoText, (0,)))

    def test_no_program(self):
        self.kept("begin 2\nnames\nhead n 1 num", (NoProgram, (-1,)))
        self.kept("begin 2\nnames a a\nhead n 1 num", (NoProgram, (-1,)))
        self.kept("begin 2\nnames a b c d e\nhead n 1 num", (NoProgram, (-1,)))
        self.kept("begin 2\nnames a\nhead n 3 num", (NoProgram, (-1,)))
        self.kept("\n".join(["begin 2"] + ROWS + ["rule put 0"] * 5), (NoProgram, (-1,)))
        self.kept("\n".join(["begin 2"] + ROWS + ["rule ask n.a 0 put 0 put 0"]), (NoProgram, (2,)))
        self.kept("\n".join(["begin 2"] + ROWS + ["rule put 0", "rule put 1 n.a plus n.a 1001"]), (NoProgram, (3,)))
        self.kept("\n".join(["begin 2"] + ROWS + ["rule put 1 n.a of s"]), (NoProgram, (2,)))


class TwoDesks(Checked):
    def test_by_turns(self):
        one, other = Desk(), Desk()
        self.says(one, (BEGIN, "ok"), ("put 0 n.a 3", "ok"))
        self.says(other, ("standing 0", "-"), ("put 0 a 1", "ok"))
        self.says(one, ("standing 0", "n.a=3"), ("send 0 n.a", "0"))
        self.says(other, ("letters", "0"), (BEGIN, "ok"), ("standing 0", "-"))
        self.says(one, ("standing 0", "n.a=3"), ("letters", "1"), ("cap 0 n.a=3", "ok"))
        self.says(other, ("put 0 n.a 9", "ok"), ("standing 0", "n.a=9"), ("letters", "0"))
        self.no_deed(one, "put 0 n.a 9")
        self.says(Desk(), ("standing 0", "-"), ("roof 0", "a=*"))


class AnyTalk(Checked):
    def test_as_the_modules_tell(self):
        chance = random.Random(52)
        seen = {}
        for number in range(60):
            given = some_program(chance)
            many = chance.randrange(1, 4)
            desk = self.desk(begin(given, many))
            hall = first_hall(given, many)
            for turn in range(20):
                hall = self.led_on(chance, desk, given, hall)
            for line, answer in self.answers(chance, given, hall):
                self.says(desk, (line, answer))
                key = (line.split(" ")[0], answer)
                seen[key] = seen.get(key, 0) + 1
        for key in (("ended", "yes"), ("ended", "no"), ("word", "yes"), ("word", "no"), ("word", "open"), ("verdict", "one"), ("verdict", "parts"),
                    ("verdict", "open"), ("holds", "yes"), ("holds", "no"), ("finish", "yes"), ("finish", "no")):
            self.assertIn(key, seen)

    def led_on(self, chance, desk, given, hall):
        ground = given[:2]
        deed = some_deed(chance, given, hall)
        if chance.random() < 0.3:
            hand = chance.randrange(len(hall[0]))
            deed = chance.choice((("cap", hand, some_roof(chance, ground)), ("tell", hand, chance.randrange(len(hall[0])))))
        words = {"put": lambda: [thing_text(deed[2]), height_text(order_of(ground, deed[2]), deed[3])],
                 "do": lambda: [str(deed[2][0])] + list(deed[2][1]), "send": lambda: [thing_text(deed[2])],
                 "cap": lambda: [roof_text(ground, deed[2])]}.get(deed[0], lambda: [str(deed[2])])()
        line = " ".join([deed[0], str(deed[1])] + words)
        told = refusal(deed_done, given, hall, deed)
        if told[0] is not None:
            self.assertEqual(refusal(desk.say, line), told)
            return hall
        self.says(desk, (line, str(len(hall[1])) if deed[0] in ("send", "tell") else "ok"))
        return told[1]

    def answers(self, chance, given, hall):
        ground = given[:2]
        end = least_closed(given, put_in(given, hall))
        yield ("letters", str(len(hall[1])))
        yield ("ended", "yes" if is_ended(given, hall) else "no")
        yield ("finish", "no" if finish(given, hall) is None else "yes")
        yield ("verdict", verdict(given)[0])
        yield ("end", end_of(given, put_in(given, hall))[0] if end is None else standing_text(ground, end))
        for hand in range(len(hall[0])):
            yield (f"standing {hand}", standing_text(ground, standing_of(hall, hand)))
            yield (f"roof {hand}", roof_text(ground, look(given, hall, hand)[1]))
            for turn in range(6):
                asking = some_asking(chance, ground)
                text = asking_text(ground, asking)
                yield (f"holds {hand} {text}", "yes" if holds(ground, standing_of(hall, hand), asking) else "no")
                yield (f"word {hand} {text}", hand_word(given, hall, hand, asking)[0])

    def test_a_thing_called_as_a_word(self):
        desk = self.desk("begin 1\nnames not least\nhead both 1 num\nhead put 0 num\nrule put 1 both.A of both.B")
        self.says(desk, ("put 0 both.not 3", "ok"), ("put 0 put 1", "ok"), ("holds 0 both least both.not 3 not least put 2", "yes"),
                  ("do 0 0 least not", "ok"), ("standing 0", "both.least=3,both.not=3,put=1"), ("word 0 least both.least 3", "yes"))

    def test_programs_of_tests(self):
        self.says(self.desk(begin(program(put(just(n("A"), 2))), 1)), ("end", "n.a=2,n.b=2"), ("do 0 0 b", "ok"), ("standing 0", "n.b=2"))


if __name__ == "__main__":
    unittest.main()
