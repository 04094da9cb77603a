"""What is promised over the whole program, of programs and runs by chance."""

import random
import unittest

from onlyrise.askings import holds
from onlyrise.doing import done, is_closed, walked
from onlyrise.ended import finish, is_ended
from onlyrise.endchecker import lets_end
from onlyrise.ends import end_of, least_closed
from onlyrise.errors import NoDeed, NoJoin, NoPaper
from onlyrise.halls import deed_done, first_hall, put_in, run, standing_of
from onlyrise.keeping import Keeper
from onlyrise.looks import hand_word, look
from onlyrise.partchecker import lets_parting
from onlyrise.parting import verdict
from onlyrise.risechecker import lets_rising
from onlyrise.rising import rising
from onlyrise.roofs import joined_roofs
from onlyrise.standings import is_over, joined_standings
from onlyrise.telling import word_told
from onlyrise.together import papers_together, put_together
from onlyrise.trees import cases_of
from onlyrise.wordchecker import lets_word
from tests.rules import (NOTHING, X, Y, Z, ask, just, put, refusal, small, some_asking, some_deed, some_program, some_roof, some_standing,
                         some_tree)
from tests.samples import same


def rising_programs(chance, many):
    found = 0
    while found < many:
        given = some_program(chance)
        if rising(given)[0] == "rises":
            found += 1
            yield given


def woven(chance, given, many, puts):
    """A hall in which all of that is put in, by hands and at times by chance, among other deeds."""
    hall = first_hall(given, many)
    left = list(puts)
    chance.shuffle(left)
    while left:
        if chance.random() < 0.3:
            thing, height = left.pop()
            deed = ("put", chance.randrange(many), thing, height)
        else:
            deed = some_deed(chance, given, hall)
        if deed[0] != "put" or (deed[2:] in puts):
            hall = deed_done(given, hall, deed)
    return hall


def ended(chance, given, hall):
    """It goes on by chance for a while, and then plainly; None where that does not end it."""
    for turn in range(chance.randrange(30)):
        deed = some_deed(chance, given, hall)
        if deed[0] != "put":
            hall = deed_done(given, hall, deed)
    deeds = finish(given, hall)
    if deeds is None:
        return None
    for deed in deeds:
        hall = deed_done(given, hall, deed)
    return hall


class Rises(unittest.TestCase):
    def test_rules_lead_as_high_from_the_higher_one(self):
        chance = random.Random(1)
        changed = 0
        for given in rising_programs(chance, 250):
            for turn in range(8):
                low = some_standing(chance, given[:2], 4)
                high = joined_standings(given[:2], low, some_standing(chance, given[:2], 4))
                for case in cases_of(given):
                    lower, higher = done(given, low, case), done(given, high, case)
                    changed += lower != low
                    self.assertIs(is_over(given[:2], higher, lower), True, (given, low, high, case))
        self.assertGreater(changed, 500)


class OneEnd(unittest.TestCase):
    def test_runs_that_end_end_in_one_standing(self):
        chance = random.Random(2)
        many = 0
        for given in rising_programs(chance, 120):
            puts = some_standing(chance, given[:2], 4)
            end = least_closed(given, puts)
            ends = []
            for turn in range(4):
                hall = woven(chance, given, chance.randrange(1, 5), puts)
                self.assertTrue(same(put_in(given, hall), puts))
                if end is not None:
                    self.assertTrue(all(is_over(given[:2], end, standing) for standing in hall[0]))
                behind = ended(chance, given, hall)
                if behind is not None:
                    self.assertIs(is_ended(given, behind), True)
                    self.assertTrue(same(put_in(given, behind), puts))
                    ends.append(standing_of(behind, 0))
            many += len(ends)
            self.assertTrue(all(same(one, end) for one in ends) or (end is None and len(set(ends)) == 1), (given, ends, end))
            if end_of(given, puts)[0] == "endless":
                self.assertEqual(ends, [])
        self.assertGreater(many, 200)

    def test_the_least_of_all_closed_standings(self):
        chance = random.Random(3)
        seen = 0
        for given in rising_programs(chance, 150):
            puts = some_standing(chance, given[:2], 3)
            end = least_closed(given, puts)
            if end is None:
                continue
            self.assertIs(is_closed(given, end), True)
            self.assertIs(is_over(given[:2], end, puts), True)
            for turn in range(5):
                other = least_closed(given, joined_standings(given[:2], puts, some_standing(chance, given[:2], 4)))
                if other is not None:
                    seen += other != end
                    self.assertIs(is_over(given[:2], other, end), True)
        self.assertGreater(seen, 100)

    def test_cases_in_whatever_order(self):
        chance = random.Random(4)
        for given in rising_programs(chance, 100):
            puts = some_standing(chance, given[:2], 3)
            end = least_closed(given, puts)
            if end is None:
                continue
            standing = puts
            for turn in range(200):
                standing = done(given, standing, chance.choice(cases_of(given)))
                self.assertIs(is_over(given[:2], end, standing), True)
            if is_closed(given, standing):
                self.assertTrue(same(standing, end))

    def test_a_keeper_comes_to_it_in_whatever_order(self):
        chance = random.Random(5)
        seen = 0
        for given in rising_programs(chance, 80):
            parts = [some_standing(chance, given[:2], 2) for turn in range(3)]
            extra = some_tree(chance, given[:2], ("A", "B"), 1)
            deeds = [("put", part) for part in parts] + [("rule", extra), ("name", "d")]
            bigger = (given[0] + ("d",), given[1], given[2] + (extra,))
            puts = ()
            for part in parts:
                puts = joined_standings(given[:2], puts, part)
            if rising(bigger)[0] != "rises":
                continue
            for turn in range(3):
                chance.shuffle(deeds)
                keeper = Keeper(given, ())
                for word, what in deeds:
                    {"put": keeper.put, "rule": keeper.rule, "name": keeper.name}[word](what)
                self.assertTrue(same(keeper.program(), bigger))
                self.assertTrue(same(keeper.put_in(), puts))
                self.assertTrue(same(keeper.end(), least_closed(bigger, puts)))
                hall = ended(chance, bigger, woven(chance, bigger, 2, puts))
                if hall is not None and keeper.end() is not None:
                    seen += 1
                    self.assertTrue(same(standing_of(hall, 0), keeper.end()))
                    less = least_closed(given, parts[0])
                    self.assertTrue(less is not None and is_over(bigger[:2], keeper.end(), less))
        self.assertGreater(seen, 50)

    def test_where_there_is_no_end_none_ends(self):
        given = small(ask(X, 1, put((Y, ("plus", Y, 1))), NOTHING))
        paper = end_of(given, ((X, 1),))
        self.assertEqual(paper[0], "endless")
        chance = random.Random(6)
        for turn in range(50):
            hall = woven(chance, given, chance.randrange(1, 5), ((X, 1),))
            self.assertIs(finish(given, hall), None)
            for step in range(40):
                deed = some_deed(chance, given, hall)
                if deed[0] != "put":
                    hall = deed_done(given, hall, deed)
                self.assertIs(is_ended(given, hall), False)


class EarlyWords(unittest.TestCase):
    def capped(self, chance, given, hall):
        """A deed by chance, caps and what is told of them among it; what is refused is left."""
        hand, other = chance.randrange(len(hall[0])), chance.randrange(len(hall[0]))
        roof = joined_roofs(given[:2], hall[2][hand], some_roof(chance, given[:2], 2))
        deed = chance.choice((("cap", hand, roof), ("tell", hand, other), ("tell", hand, hand), some_deed(chance, given, hall)))
        try:
            return deed_done(given, hall, deed)
        except NoDeed:
            return hall

    def test_words_are_never_unlike_and_true_at_the_end(self):
        chance = random.Random(7)
        told = {"yes": 0, "no": 0}
        early = 0
        for given in rising_programs(chance, 60):
            askings = [some_asking(chance, given[:2]) for turn in range(3)]
            words = {}
            hall = first_hall(given, chance.randrange(1, 4))
            for turn in range(25):
                hall = self.capped(chance, given, hall)
                for asking in askings:
                    hand = chance.randrange(len(hall[0]))
                    paper = hand_word(given, hall, hand, asking)
                    if paper == ("open",):
                        continue
                    self.assertIs(lets_word(given, *look(given, hall, hand), asking, paper), True)
                    words.setdefault(asking, set()).add(paper[0])
                    told[paper[0]] += 1
                    early += holds(given[:2], standing_of(hall, hand), asking) != (paper[0] == "yes")
            behind = ended(chance, given, hall)
            for asking in words:
                self.assertEqual(len(words[asking]), 1, (given, asking))
                if behind is not None:
                    self.assertEqual(words[asking], {"yes" if holds(given[:2], standing_of(behind, 0), asking) else "no"})
        self.assertGreater(min(told.values()), 300)
        self.assertGreater(early, 20)

    def test_other_papers_that_are_let_by(self):
        # Fewer cases, or a wider roof, than the plain way's: the word is the same one, or none.
        chance = random.Random(8)
        seen = 0
        for given in rising_programs(chance, 150):
            low, high = some_standing(chance, given[:2], 2), some_roof(chance, given[:2], 2)
            asking = some_asking(chance, given[:2])
            paper = word_told(given, low, high, asking)
            if paper == ("open",):
                continue
            for turn in range(6):
                cases = tuple(chance.choice(cases_of(given)) for step in range(chance.randrange(6)))
                roof = word_told(given, low, joined_roofs(given[:2], high, some_roof(chance, given[:2], 2)), asking)
                roof = roof[2] if len(roof) == 3 else paper[2]
                for word in ("yes", "no"):
                    if refusal(lets_word, given, low, high, asking, (word, cases, roof)) == (None, True):
                        seen += 1
                        self.assertEqual(word, paper[0])
        self.assertGreater(seen, 100)


class Papers(unittest.TestCase):
    def test_each_makers_own_papers_are_let_by(self):
        chance = random.Random(9)
        seen = {}
        for number in range(400):
            given = some_program(chance)
            standing = some_standing(chance, given[:2], 3)
            told = rising(given)
            if told[0] == "rises":
                self.assertIs(lets_rising(given, told[1]), True)
            paper = end_of(given, standing)
            if paper != ("open",):
                self.assertIs(lets_end(given, standing, paper), True)
            if paper[0] == "end":
                self.assertTrue(same(walked(given, standing, paper[1]), least_closed(given, standing)))
            judged = verdict(given)
            if judged[0] == "parts":
                self.assertIs(lets_parting(given, *judged[1:]), True)
            self.assertIs(judged[0] == "one", told[0] == "rises")
            for word in (told[0], paper[0] + " of end", judged[0]):
                seen[word] = seen.get(word, 0) + 1
        for word in ("rises", "falls", "one", "parts", "open", "end of end", "endless of end"):
            self.assertIn(word, seen)

    def test_an_end_let_by_is_the_least_closed_whatever_its_cases(self):
        chance = random.Random(10)
        seen = 0
        for given in rising_programs(chance, 200):
            standing = some_standing(chance, given[:2], 3)
            cases = tuple(chance.choice(cases_of(given)) for step in range(8))
            if refusal(lets_end, given, standing, ("end", cases)) == (None, True):
                seen += 1
                self.assertTrue(same(walked(given, standing, cases), least_closed(given, standing)))
                self.assertNotEqual(end_of(given, standing)[0], "endless")
        self.assertGreater(seen, 50)


class Together(unittest.TestCase):
    def test_two_programs_that_are_let_by(self):
        chance = random.Random(11)
        many = 0
        programs = list(rising_programs(chance, 120))
        for one in programs:
            # The same ground, or another one.
            other = one[:2] + (tuple(some_tree(chance, one[:2], ("A", "B"), 1) for turn in range(2)),)
            if rising(other)[0] != "rises":
                other = chance.choice(programs)
            told = refusal(put_together, one, other)
            if told[0] is NoJoin:
                continue
            many += 1
            given = told[1]
            paper = papers_together(rising(one)[1], rising(other)[1])
            self.assertIs(lets_rising(given, paper), True)
            puts = some_standing(chance, one[:2], 3)
            ends = [least_closed(which, puts) for which in (given, one)]
            if None not in ends:
                self.assertIs(is_over(given[:2], ends[0], ends[1]), True)
                # Going on from the former end comes to the same.
                further = least_closed(given, ends[1])
                self.assertTrue(further is None or same(further, ends[0]))
        self.assertGreater(many, 40)

    def test_runs_of_both(self):
        one = small(ask(X, 1, put(just(Y, 2)), NOTHING))
        other = small(ask(Y, 2, put((Z, ("plus", Y, 1))), NOTHING))
        given = put_together(one, other)
        self.assertIs(lets_rising(given, papers_together(rising(one)[1], rising(other)[1])), True)
        hall = run(given, 2, [("put", 1, X, 1)])
        self.assertTrue(same(standing_of(ended(random.Random(12), given, hall), 0), ((X, 1), (Y, 2), (Z, 3))))


class NoPartingOfARisingProgram(unittest.TestCase):
    def test_runs_with_the_same_put_in(self):
        chance = random.Random(13)
        seen = set()
        for given in rising_programs(chance, 60):
            puts = some_standing(chance, given[:2], 2)
            runs = []
            for turn in range(3):
                many = chance.randrange(1, 4)
                deeds = [("put", chance.randrange(many), thing, height) for thing, height in puts]
                deeds += [("do", chance.randrange(many), chance.choice(cases_of(given))) for step in range(4)]
                chance.shuffle(deeds)
                more = finish(given, run(given, many, deeds))
                if more is not None:
                    runs.append((many, tuple(deeds) + more))
            seen.update(refusal(lets_parting, given, one, other) for one in runs for other in runs)
        self.assertEqual(seen, {(NoPaper, ("alike", 0))})


if __name__ == "__main__":
    unittest.main()
