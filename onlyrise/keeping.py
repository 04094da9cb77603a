"""Keepers: a program and what was put in, both of which grow, and the end that they come to."""

from onlyrise.ends import least_closed
from onlyrise.errors import NoProgram
from onlyrise.rising import entries_of
from onlyrise.standings import height_in, joined_standings
from onlyrise.trees import ground_of, right_program


class Keeper:
    def __init__(self, program, standing):
        look_at_gaps(program)
        self.kept = program
        self.inputs = standing
        self.last = least_closed(program, standing)

    def put(self, standing):
        return self.gone_on(self.kept, joined_standings(ground_of(self.kept), self.inputs, standing))

    def rule(self, tree):
        program = (self.kept[0], self.kept[1], self.kept[2] + (tree,))
        right_program(program)
        look_at_gaps(program)
        return self.gone_on(program, self.inputs)

    def name(self, word):
        program = (self.kept[0] + (word,), self.kept[1], self.kept[2])
        right_program(program)
        return self.gone_on(program, self.inputs)

    def gone_on(self, program, standing):
        # Sought anew from all that was put in, so that it can not hang on the order in which that came.
        ahead = self.last
        self.kept = program
        self.inputs = standing
        self.last = least_closed(program, standing)
        return None if ahead is None or self.last is None else risen(ground_of(program), ahead, self.last)

    def program(self):
        return self.kept

    def put_in(self):
        return self.inputs

    def end(self):
        return self.last


def look_at_gaps(program):
    for k in range(len(program[2])):
        if None in entries_of(program, k):
            raise NoProgram(k)


def risen(ground, ahead, now):
    return tuple([(thing, height) for thing, height in now if height_in(ground, ahead, thing) != height])
