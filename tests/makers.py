"""Random worlds and shapes, the same ones in each run."""

import random

from shapetypes.declarations import Kind, Method, Role, Way
from shapetypes.shapes import Atom, Shape
from shapetypes.worlds import World

KINDS = ["Cat", "Dog", "Fish", "Bird"]
ROLES = ["Box", "Cell", "List"]
METHODS = [("get", 0), ("put", 1), ("eat", 1), ("mix", 2), ("Object", 0), ("run", 0)]
MARKS = ("none", "out", "in", "both")


class Maker:
    """Makes right worlds, shapes of them, and uses.

    In even worlds nearly all declarations have the same methods, and these take all kinds: so shapes
    differ only behind a few uses, if at all.
    """

    def __init__(self, seed, kinds=3, roles=2, methods=3, ways=2, even=False):
        self.random = random.Random(seed)
        self.even = even
        self.kinds = self.random.sample(KINDS, kinds)
        self.roles = {}
        self.many = methods, ways
        for name in ROLES[:roles]:
            parameters = self.random.sample(["T", "U"], self.random.randint(0, 2))
            self.roles[name] = {parameter: self.random.choice(MARKS) for parameter in parameters}
        made = [Kind(name, *self.methods({})) for name in self.kinds]
        made += [Role(name, *self.methods(marks), **marks) for name, marks in self.roles.items()]
        self.random.shuffle(made)
        self.world = World(*made)

    def methods(self, marks):
        most, ways = self.many
        chosen = self.random.sample(METHODS, self.random.randint(0, most))
        if self.even:
            chosen = METHODS[:most - (self.random.random() < 0.15)]
        return [self.method(name, many, self.random.randint(1, ways), marks) for name, many in chosen]

    def method(self, name, many, ways, marks):
        if not self.even and self.random.random() < 0.1:
            many = self.random.randint(0, 2)
        made = []
        for number in range(ways):
            parameters = [self.parameter(marks, number == ways - 1) for _ in range(many)]
            made.append(Way(self.result(marks), *parameters))
        return Method(name, *made)

    def parameter(self, marks, last):
        often = (1 if self.even else 0.9) if last else 0.5
        names = [kind for kind in self.kinds if self.random.random() < often]
        for parameter, mark in marks.items():
            if mark == "both" or mark == "in" and last:
                names += [parameter] * self.random.randint(0, 1)
        return Shape.of_names(*names)

    def result(self, marks):
        shape = self.shape(1, 1 if self.even else 2)
        for parameter, mark in marks.items():
            if mark in ("out", "both") and self.random.random() < 0.4:
                shape |= Atom(parameter)
        if marks and self.random.random() < 0.4:
            shape |= self.filled(marks)
        return shape

    def filled(self, marks):
        """An atom of a role in which parameters can stand."""
        name = self.random.choice(list(self.roles))
        arguments = []
        for mark in self.roles[name].values():
            free = [parameter for parameter, own in marks.items() if own == "both" or mark in ("none", own)]
            if free and self.random.random() < 0.8:
                arguments.append(Shape.of_names(self.random.choice(free)))
            else:
                arguments.append(self.argument(mark, 1))
        return Atom(name, *arguments)

    def argument(self, mark, depth):
        if mark in ("in", "both"):
            return Shape.of_names(*self.random.sample(self.kinds, self.random.randint(0, len(self.kinds))))
        return self.shape(depth, 2)

    def atom(self, depth):
        name = self.random.choice(self.kinds * 2 + list(self.roles) * 2 + ["Object"])
        marks = self.roles.get(name, {}).values()
        if depth == 0 and marks:
            return Atom(self.random.choice(self.kinds))
        return Atom(name, *[self.argument(mark, depth - 1) for mark in marks])

    def shape(self, depth=2, most=3):
        """A shape of the world, Never now and then."""
        many = self.random.choice([0, *range(1, most + 1), *range(1, most + 1)])
        return Shape(*[self.atom(depth) for _ in range(many)])

    def use(self):
        name, many = self.random.choice(METHODS)
        return name, tuple(self.random.choice(self.kinds) for _ in range(many))


def random_makers(many, **sizes):
    """Makers with different seeds."""
    return [Maker(seed, **sizes) for seed in range(many)]
