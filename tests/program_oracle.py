"""What the document says of programs and runs, worked out in the plainest way, to compare the program with.

Texts are read into trees, and runs are tried one after the other, choice by choice.
"""

import re

from shapetypes.errors import InvalidText
from shapetypes.shapes import Atom, Shape

NAME = re.compile(r"(?!Never\Z)[A-Za-z][A-Za-z0-9_]{0,19}\Z")


class Refused(Exception):
    """The line and the word of the first word that is not allowed."""


class Parser:
    """Reads a text; the tree is a list of statements, tuples of the number of the line, its word, and more."""

    def __init__(self, text):
        if not isinstance(text, str):
            raise Refused(0, 0)
        self.rows = text.split("\n")
        self.at = 0
        self.variables = []
        self.tree = self.statements(0)
        if self.at < len(self.rows):
            raise Refused(self.at + 1, 1)

    def words(self):
        """The words of the row that is looked at, or None behind the last one."""
        if self.at == len(self.rows):
            return None
        if self.at == 60:
            raise Refused(61, 1)
        row = self.rows[self.at]
        if re.search(r"\A\Z|\A | \Z|  ", row):
            raise Refused(self.at + 1, 0)
        return row.split(" ")

    def check(self, words, many, most=None):
        """Take the words of a line that are names, all but the label being variables."""
        label = {"new": 2, "call": 3}.get(words[0])
        for spot in range(1, len(words)):
            fresh = spot != label and words[spot] not in self.variables
            if spot > (most or many) or not NAME.match(words[spot]) or fresh and len(self.variables) == 6:
                raise Refused(self.at + 1, spot + 1)
            if fresh:
                self.variables.append(words[spot])
        if len(words) <= many:
            raise Refused(self.at + 1, len(words) + 1)
        self.at += 1

    def statements(self, depth):
        told = []
        while True:
            words = self.words()
            number = self.at + 1
            if words is None or words[0] not in ("new", "call", "match") or words[0] == "match" and depth == 5:
                return told
            if words[0] == "new":
                self.check(words, 2)
                told.append((number, *words))
            elif words[0] == "call":
                self.check(words, 3, 5)
                told.append((number, *words))
            else:
                self.check(words, 1)
                cases, other = self.blocks(depth + 1)
                told.append((number, *words, cases, other))

    def blocks(self, depth):
        cases, other = [], None
        while True:
            words = self.words()
            first = words[0] if words else None
            if first == "case" and other is None:
                try:
                    shape = Shape.read(self.rows[self.at][5:])
                except InvalidText:
                    raise Refused(self.at + 1, 2)
                self.at += 1
                cases.append((self.at, shape, self.statements(depth)))
            elif first == "else" and cases and other is None:
                self.check(words, 0)
                other = self.statements(depth)
            elif first == "end" and cases:
                self.check(words, 0)
                return cases, other
            else:
                raise Refused(self.at + 1, 1)


def parsed(text):
    """The variables of the program with this text, or the line and word that are refused."""
    try:
        return Parser(text).variables
    except Refused as error:
        return error.args


class Runs:
    """All runs of a program in the world of an oracle."""

    def __init__(self, oracle, text):
        self.oracle = oracle
        parser = Parser(text)
        self.tree = parser.tree
        self.slots = parser.variables
        self.reached = {}
        self.failures = {}
        self.ends = {}
        self.members = {}
        start = {name: None for name in self.slots}
        self.done = []
        for environment, choices in self.perform(self.tree, start, ()):
            self.done.append((tuple(environment.values()), choices))

    def members_of(self, shape):
        if shape.text not in self.members:
            self.members[shape.text] = self.oracle.members(shape)
        return self.members[shape.text]

    def perform(self, block, environment, choices):
        """The environments behind a block, with the choices that lead there."""
        if not block:
            yield environment, choices
            return
        for following, told in self.perform_one(block[0], environment, choices):
            yield from self.perform(block[1:], following, told)

    def perform_one(self, statement, environment, choices):
        number, word, *others = statement
        self.reached.setdefault(number, set()).add(tuple(environment.values()))
        if word == "new":
            yield {**environment, others[0]: others[1]}, choices
        elif word == "call":
            kinds = self.kinds_of_call(others, environment)
            if kinds is None:
                self.failures.setdefault(number, set()).add(choices)
            elif not kinds:
                self.ends.setdefault(number, set()).add(choices)
            for kind in kinds or ():
                yield {**environment, others[0]: kind}, (*choices, kind)
        else:
            block = self.block_for(environment[others[0]], others[1], others[2])
            if block is None:
                self.failures.setdefault(number, set()).add(choices)
            else:
                yield from self.perform(block, environment, choices)

    def kinds_of_call(self, words, environment):
        _, receiver, method, *arguments = words
        kinds = [environment[name] for name in (receiver, *arguments)]
        if None in kinds:
            return None
        result = self.oracle.result_of_atom(Atom(kinds[0]), (method, tuple(kinds[1:])))
        return None if result is None else self.members_of(result)

    def block_for(self, kind, cases, other):
        if kind is None:
            return None
        for _, shape, block in cases:
            if kind in self.members_of(shape):
                return block
        return other

    def lines(self):
        """The numbers of all statements."""
        told, queue = [], list(self.tree)
        while queue:
            statement = queue.pop()
            told.append(statement[0])
            if statement[1] == "match":
                for _, _, block in statement[3]:
                    queue.extend(block)
                queue.extend(statement[4] or [])
        return sorted(told)

    def environments(self, number):
        key = lambda environment: tuple(kind or "" for kind in environment)
        return sorted(self.reached.get(number, ()), key=key)
