"""Random programs, the same ones in each run."""

from makers import METHODS


class ProgramMaker:
    """Makes texts of programs for the world of a maker."""

    def __init__(self, maker, variables=3, often=0.9):
        self.maker = maker
        self.random = maker.random
        self.variables = ["x", "y", "new", "match", "b1", "Cat"][:variables]
        self.often = often
        # The methods that a kind has, more often than others.
        self.methods = list(METHODS)
        for part in maker.world.declarations:
            if part.name in maker.kinds:
                self.methods += [(method.name, len(method.ways[0].parameters)) for method in part.methods] * 8

    def text(self, lines=8, depth=3):
        """A text of at most 60 lines."""
        while True:
            rows = [f"new {name} {self.random.choice(self.maker.kinds)}" for name in self.variables
                    if self.random.random() < self.often]
            rows.extend(self.block(lines, depth))
            if 1 <= len(rows) <= 60:
                return "\n".join(rows)

    def block(self, most, depth):
        rows = []
        for _ in range(self.random.randint(0, most)):
            rows.extend(self.statement(most // 2, depth))
        return rows

    def variable(self):
        return self.random.choice(self.variables)

    def statement(self, most, depth):
        chosen = self.random.random()
        if chosen < 0.2:
            return [f"new {self.variable()} {self.random.choice(self.maker.kinds)}"]
        if chosen < 0.75 or depth == 0:
            name, many = self.random.choice(self.methods)
            return [" ".join(["call", self.variable(), self.variable(), name, *[self.variable() for _ in range(many)]])]
        rows = [f"match {self.variable()}"]
        for _ in range(self.random.randint(1, 3)):
            rows.append("case " + self.maker.shape(1).text)
            rows.extend(self.block(most, depth - 1))
        if self.random.random() < self.often:
            rows.extend(["else", *self.block(most, depth - 1)])
        return [*rows, "end"]


def changed(text, chance):
    """A text that is changed a little: in its signs, its words, or its lines."""
    rows = text.split("\n")
    at = chance.randrange(len(rows))
    words = rows[at].split(" ")
    spot = chance.randrange(len(words))
    way = chance.randrange(9)
    if way == 0:
        del rows[at]
    elif way == 1:
        rows.insert(at, chance.choice(["", " ", "end", "else", "case Cat", "match x", "new x Cat", "call x y get", "case"]))
    elif way == 2:
        rows[at] = rows[chance.randrange(len(rows))]
    elif way == 3:
        rows = rows[:at]
    elif way == 4:
        rows.append(chance.choice(["", "end", "new a b c", "match"]))
    else:
        if way == 5:
            del words[spot]
        elif way == 6:
            words.insert(spot, chance.choice(["", "x", "Never", "1a", "z9", "q", "new", "end", "Cat", "a" * 21, "|"]))
        elif way == 7:
            words[spot] = chance.choice(["", "New", "Never", "x_", "_x", "9", "[", "case", "else", "match", "w"])
        else:
            words[spot] = words[spot][:-1]
        rows[at] = " ".join(words)
    return "\n".join(rows)
