"""Nothing depends on the names of declarations, parameters and methods (k68)."""

import unittest

from makers import random_makers
from oracle import Oracle
from shapetypes.calls import called, dead_ways, overlaps
from shapetypes.declarations import Kind, Method, Role, Way
from shapetypes.errors import InvalidWorld, NotTaken
from shapetypes.fitting import check_decision, decide, fits
from shapetypes.members import Narrower, members
from shapetypes.shapes import Atom, Shape
from shapetypes.worlds import World, least_marks

# Names that the program could confuse with its own words, and others in another order.
NEW_NAMES = ["result", "zz", "in", "Never1", "T", "b", "derivation", "A_", "a" * 20, "use", "none", "Objects"]
NEW_METHODS = ["parameter", "z", "Object", "Cat", "a", "None", "of", "b1"]
NEW_PARAMETERS = {"T": "out", "U": "marks"}


class Renaming:
    """Other names for everything that the declarations of a maker's world have."""

    def __init__(self, maker):
        declarations = maker.world.declarations
        methods = sorted({method.name for part in declarations for method in part.methods})
        self.names = dict(zip([part.name for part in declarations], maker.random.sample(NEW_NAMES, len(declarations))))
        self.methods = dict(zip(methods, maker.random.sample(NEW_METHODS, len(methods))))
        self.declarations = [self.declaration(part) for part in declarations]
        self.world = World(*self.declarations)

    def shape(self, shape):
        return Shape(*[self.atom(atom) for atom in shape.atoms])

    def atom(self, atom):
        name = self.names.get(atom.name) or NEW_PARAMETERS.get(atom.name) or atom.name
        return Atom(name, *[self.shape(argument) for argument in atom.arguments])

    def method(self, method):
        ways = [Way(self.shape(way.gives), *[self.shape(part) for part in way.parameters]) for way in method.ways]
        return Method(self.methods[method.name], *ways)

    def declaration(self, part):
        given = [self.method(method) for method in part.methods]
        if isinstance(part, Kind):
            return Kind(self.names[part.name], *given)
        return Role(self.names[part.name], *given, **{NEW_PARAMETERS[name]: mark for name, mark in part.marks})

    def kinds(self, kinds):
        return tuple(self.names[kind] for kind in kinds)

    def use(self, use):
        return self.methods.get(use[0], "other"), self.kinds(use[1])


class Names(unittest.TestCase):

    def each(self):
        for maker in [*random_makers(50), *random_makers(20, even=True, methods=2)]:
            yield maker, maker.world, Renaming(maker)

    def test_fitting(self):
        for maker, world, renaming in self.each():
            for _ in range(6):
                one, other = maker.shape(), maker.shape()
                given = renaming.shape(one), renaming.shape(other)
                self.assertIs(fits(renaming.world, *given), fits(world, one, other))
                word, told = decide(world, one, other)
                again = decide(renaming.world, *given)
                self.assertEqual((again[0], len(again[1])), (word, len(told)))
                if word == "derivation":
                    told = {(renaming.atom(atom).text, renaming.shape(shape).text) for atom, shape in told}
                    self.assertEqual({(atom.text, shape.text) for atom, shape in again[1]}, told)
                elif all(use[0] in renaming.methods for use in told):
                    answer = (word, tuple(renaming.use(use) for use in told))
                    self.assertEqual(check_decision(renaming.world, *given, answer), word)

    def test_uses(self):
        for maker, world, renaming in self.each():
            for _ in range(5):
                shape = maker.shape()
                given, uses = renaming.shape(shape), list(world.each_use(shape))
                told = list(renaming.world.each_use(given))
                self.assertEqual(told, sorted(renaming.use(use) for use in uses))
                for use in uses:
                    result = world.result(shape, use)
                    self.assertEqual(renaming.world.result(given, renaming.use(use)), renaming.shape(result))

    def test_marks(self):
        for maker, world, renaming in self.each():
            for name in (*world.kinds, *world.roles):
                self.assertEqual(least_marks(renaming.world, renaming.names[name]), least_marks(world, name))

    def test_members_and_cases(self):
        for maker, world, renaming in self.each():
            shapes = [maker.shape() for _ in range(4)]
            for shape in shapes:
                told = members(renaming.world, renaming.shape(shape))
                self.assertEqual(told, renaming.kinds(members(world, shape)))
            one = Narrower(world, *shapes)
            other = Narrower(renaming.world, *[renaming.shape(shape) for shape in shapes])
            expected = tuple(renaming.kinds(row) for row in one(world.kinds))
            self.assertEqual(other(renaming.world.kinds), expected)

    def test_calls(self):
        for maker, world, renaming in self.each():
            for _ in range(8):
                name, kinds = maker.use()
                receivers = tuple(maker.random.sample(maker.kinds, 2))
                new = renaming.use((name, ()))[0]
                arguments = [(kind,) for kind in kinds]
                given = renaming.kinds(receivers), new, *[renaming.kinds(row) for row in arguments]
                try:
                    told = called(world, receivers, name, *arguments)
                    self.assertEqual(called(renaming.world, *given), renaming.kinds(told))
                except NotTaken as error:
                    with self.assertRaises(NotTaken) as caught:
                        called(renaming.world, *given)
                    kind, (_, failing) = error.use
                    self.assertEqual(caught.exception.use, (renaming.names[kind], (new, renaming.kinds(failing))))

    def test_ways(self):
        for maker, world, renaming in self.each():
            for _ in range(5):
                atom = maker.atom(1)
                new = renaming.atom(atom)
                expected = tuple((renaming.methods[name], number) for name, number in dead_ways(world, atom))
                self.assertEqual(dead_ways(renaming.world, new), expected)
                for name in Oracle(world.declarations).methods(atom):
                    told = [(one, other, renaming.kinds(kinds)) for one, other, kinds in overlaps(world, atom, name)]
                    self.assertEqual(list(overlaps(renaming.world, new, renaming.methods[name])), sorted(told))

    def test_worlds_that_are_refused(self):
        refused = 0
        makers = random_makers(60)
        for one, other in zip(makers, makers[1:]):
            exchanged = {part.name: part for part in other.world.declarations if part.name in one.roles}
            given = [exchanged.get(part.name, part) for part in one.world.declarations]
            try:
                World(*given)
                continue
            except InvalidWorld as error:
                rule, place = error.rule, error.item
            names = {name for part in (one, other) for name in (*part.kinds, *part.roles)}
            methods = {method.name for part in given for method in part.methods}
            renaming = Renaming(one)
            renaming.names = dict(zip(sorted(names), NEW_NAMES))
            renaming.methods = dict(zip(sorted(methods), NEW_METHODS))
            with self.assertRaises(InvalidWorld) as caught:
                World(*[renaming.declaration(part) for part in given])
            told = (renaming.names[place[0]], renaming.methods[place[1]], *place[2:])
            self.assertEqual((caught.exception.rule, caught.exception.item), (rule, told))
            refused += 1
        self.assertGreater(refused, 20)


if __name__ == "__main__":
    unittest.main()
