"""A desk: a program and a hall, asked and led on by lines of text."""

from onlyrise.askings import MOST_WITHIN, holds, is_asking
from onlyrise.ended import finish, is_ended
from onlyrise.ends import end_of, least_closed
from onlyrise.errors import NoLine, NoText
from onlyrise.halls import MOST_HANDS, deed_done, first_hall, put_in, standing_of
from onlyrise.looks import hand_word, look
from onlyrise.parting import verdict
from onlyrise.reading import read_height, read_number, read_program, read_roof, read_thing, taken
from onlyrise.texts import roof_text, standing_text
from onlyrise.things import is_thing, order_of
from onlyrise.trees import ground_of, is_case, marks_of, right_program

FIRST_PROGRAM = (("a",), (("a", 0, ("num",)),), ())
# What stands behind the first word of each line.
PARTS = {
    "begin": ("many",), "put": ("hand", "risen"), "do": ("hand", "case"), "come": ("hand", "letter"),
    "cap": ("hand", "roof"), "send": ("hand", "thing"), "tell": ("hand", "hand"), "standing": ("hand",),
    "roof": ("hand",), "letters": (), "ended": (), "word": ("hand", "asking"), "holds": ("hand", "asking"),
    "verdict": (), "end": (), "finish": (),
}
DEEDS = ("put", "do", "come", "cap", "send", "tell")
DEEDS_WITH_LETTERS = ("send", "tell")


class Desk:
    def __init__(self):
        self.kept = FIRST_PROGRAM
        self.hall = first_hall(FIRST_PROGRAM, 1)

    def say(self, line):
        rows = line.split("\n")
        try:
            told = line_read(self.kept, self.hall, rows[0])
        except NoText:
            raise NoLine(line) from None
        if told[0] == "begin":
            return self.begun(told[1], rows[1:])
        if len(rows) > 1:
            raise NoLine(line)
        if told[0] in DEEDS:
            return self.led_on(told)
        return answer_on(self.kept, self.hall, told)

    def begun(self, many, rows):
        program = read_program(rows)
        right_program(program)
        self.kept = program
        self.hall = first_hall(program, many)
        return "ok"

    def led_on(self, deed):
        number = len(self.hall[1])
        self.hall = deed_done(self.kept, self.hall, deed)
        return str(number) if deed[0] in DEEDS_WITH_LETTERS else "ok"


def line_read(program, hall, text):
    # Told is the first word and what the others name: of a deed, this is the deed itself.
    left = list(reversed(text.split(" ")))
    word = taken(left)
    if word not in PARTS:
        raise NoText(0)
    told = (word,)
    for part in PARTS[word]:
        told = told + part_read(program, hall, part, left)
    if len(left) > 0:
        raise NoText(0)
    return told


def part_read(program, hall, part, left):
    # A tuple, as a thing and its height are two.
    ground = ground_of(program)
    if part == "many":
        return (number_read(left, 1, MOST_HANDS),)
    if part == "hand":
        return (number_read(left, 0, len(hall[0]) - 1),)
    if part == "letter":
        return (number_read(left, 0, len(hall[1]) - 1),)
    if part == "case":
        return (case_read(program, left),)
    if part == "roof":
        return (read_roof(ground, taken(left)),)
    if part == "asking":
        return (asking_read(ground, left),)
    return (thing_read(ground, left),) if part == "thing" else risen_read(ground, left)


def number_read(left, fewest, most):
    # There are never so many hands, rules or letters that a number of ten figures would name one of them.
    number = read_number(taken(left))
    if not fewest <= number <= most:
        raise NoText(0)
    return number


def case_read(program, left):
    number = number_read(left, 0, len(program[2]) - 1)
    case = (number, tuple([taken(left) for mark in marks_of(program[2][number])]))
    if not is_case(program, case):
        raise NoText(0)
    return case


def thing_read(ground, left):
    # A text of stage 4 may write a spoken thing, with marks; here it must be one of the ground.
    thing = read_thing(ground, taken(left))
    if not is_thing(ground, thing):
        raise NoText(0)
    return thing


def risen_read(ground, left):
    thing = thing_read(ground, left)
    return (thing, read_height(order_of(ground, thing), taken(left)))


def asking_read(ground, left):
    asking = asking_within(ground, left, MOST_WITHIN)
    if not is_asking(ground, asking):
        raise NoText(0)
    return asking


def asking_within(ground, left, deep):
    # A line may have words within words beyond all bounds, so they are not followed deeper than askings go.
    if deep == 0:
        raise NoText(0)
    word = taken(left)
    if word == "least":
        return (word,) + risen_read(ground, left)
    if word not in ("both", "either", "not"):
        raise NoText(0)
    many = 1 if word == "not" else 2
    return (word,) + tuple([asking_within(ground, left, deep - 1) for place in range(many)])


def answer_on(program, hall, told):
    word = told[0]
    if word == "letters":
        return str(len(hall[1]))
    if word == "ended":
        return yes_or_no(is_ended(program, hall))
    if word == "finish":
        return yes_or_no(finish(program, hall) is not None)
    if word == "verdict":
        return verdict(program)[0]
    if word == "end":
        return end_text(program, put_in(program, hall))
    return answer_of_hand(program, hall, told)


def answer_of_hand(program, hall, told):
    ground = ground_of(program)
    standing = standing_of(hall, told[1])
    if told[0] == "standing":
        return standing_text(ground, standing)
    if told[0] == "roof":
        return roof_text(ground, look(program, hall, told[1])[1])
    if told[0] == "holds":
        return yes_or_no(holds(ground, standing, told[2]))
    return hand_word(program, hall, told[1], told[2])[0]


def end_text(program, standing):
    end = least_closed(program, standing)
    return end_of(program, standing)[0] if end is None else standing_text(ground_of(program), end)


def yes_or_no(truth):
    return "yes" if truth else "no"
