"""Refusals: errors with fields, all under one base, none under another one."""


class RiseError(ValueError):
    pass


class NoText(RiseError):
    def __init__(self, row):
        self.row = row


class NoProgram(RiseError):
    def __init__(self, number):
        self.number = number


class NoPaper(RiseError):
    def __init__(self, word, number):
        self.word = word
        self.number = number


class NoDeed(RiseError):
    def __init__(self, place):
        self.place = place


class NoJoin(RiseError):
    def __init__(self, word):
        self.word = word


class NoLine(RiseError):
    def __init__(self, line):
        self.line = line
