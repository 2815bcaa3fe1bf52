"""The least marks of parameters (k14)."""

import unittest

from makers import random_makers
from oracle import Oracle
from samples import boxes, farm, way
from shapetypes.declarations import Kind, Method, Role
from shapetypes.errors import UnknownName
from shapetypes.shapes import Atom, Shape
from shapetypes.worlds import World, least_marks
from values import values_besides


class LeastMarks(unittest.TestCase):

    def test_kinds_and_roles_without_parameters(self):
        for name in ("Cat", "Dog", "Fish", "Eater"):
            self.assertEqual(least_marks(farm(), name), ())
            self.assertEqual(least_marks(world=farm(), name=name), ())

    def test_marks_that_are_the_least(self):
        world = boxes()
        for name, marks in (("Source", ("out",)), ("Sink", ("in",)), ("Cell", ("both",)), ("Tag", ("none",)),
                            ("Pair", ("out", "out"))):
            told = least_marks(world, name)
            self.assertIs(type(told), tuple)
            self.assertEqual(told, marks)

    def test_marks_that_are_more(self):
        for method, least in (
            (Method("run", way("Cat")), "none"), (Method("get", way("T")), "out"), (Method("put", way("Cat", "T")), "in"),
            (Method("put", way("Cat", "T"), way("Cat", "Cat")), "both"), (Method("put", way("T", "T")), "both"),
            (Method("put", way("Cat", "Cat"), way("Cat", "T | Cat")), "in"), (Method("get", way("Box[T]")), "none"),
        ):
            world = World(Kind("Cat"), Role("Box", method, T="both"))
            self.assertEqual(least_marks(world, "Box"), (least,))

    def test_demands_come_from_least_marks_and_not_from_declared_ones(self):
        world = World(
            Role("Box", Method("get", way("Cell[T]")), T="both"), Role("Cell", Method("get", way("List[T]")), T="both"),
            Role("List", T="both"), Role("Other", Method("get", way("Last[T]")), T="both"),
            Role("Last", Method("get", way("T")), T="both"),
        )
        told = {name: least_marks(world, name) for name in world.roles}
        self.assertEqual(told, {"Box": ("none",), "Cell": ("none",), "List": ("none",), "Other": ("out",), "Last": ("out",)})

    def test_demands_go_round(self):
        world = World(
            Role("One", Method("a", way("Two[U, T]")), T="both", U="both"),
            Role("Two", Method("a", way("One[U, T]")), Method("b", way("T")), T="both", U="both"),
            Role("Three", Method("a", way("Three[U, V]"), way("Object")), Method("b", way("Object", "V")), U="both", V="both"),
        )
        # T of Two goes out; U of One is its argument, and has T of Two as its argument again.
        self.assertEqual(least_marks(world, "One"), ("none", "out"))
        self.assertEqual(least_marks(world, "Two"), ("out", "none"))
        self.assertEqual(least_marks(world, "Three"), ("none", "in"))

    def test_demands_go_through_all_parameters(self):
        # Each parameter is an argument for the next one, and the last one goes out.
        roles = [Role("R0", Method("get", way("T")), T="both", U="both")]
        for number in range(1, 8):
            text = f"R{number - 1}[U, T]"
            roles.append(Role(f"R{number}", Method("get", way(text)), T="both", U="both"))
        for given in (roles, roles[::-1], roles[::2] + roles[1::2]):
            world = World(*given)
            for number in range(8):
                expected = ("none", "out") if number % 2 else ("out", "none")
                self.assertEqual(least_marks(world, f"R{number}"), expected)
        world = World(
            Role("One", Method("a", way("Two[U, T]")), T="both", U="both"),
            Role("Two", Method("a", way("One[T, U]")), Method("b", way("T")), T="both", U="both"),
        )
        self.assertEqual((least_marks(world, "One"), least_marks(world, "Two")), (("out", "out"), ("out", "out")))

    def test_places_with_several_parameters(self):
        world = World(
            Kind("Cat"),
            Role("Map", Method("get", way("V", "K"), way("Object", "Cat")), Method("put", way("Map[K, V]", "K", "V")),
                 K="both", V="both"),
            Role("Log", Method("put", way("Object", "K | V")), K="both", V="in"),
        )
        self.assertEqual(least_marks(world, "Map"), ("both", "both"))
        self.assertEqual(least_marks(world, "Log"), ("in", "in"))

    def test_other_values(self):
        world = boxes()
        for value in values_besides("Object", "T", "get", "Bird", Shape(), Atom("Cat"), world):
            with self.assertRaises(UnknownName) as caught:
                least_marks(world, value)
            self.assertIs(caught.exception.word, value)

    def test_random_worlds(self):
        less = 0
        for maker in [*random_makers(60), *random_makers(30, ways=4, methods=5)]:
            oracle = Oracle(maker.world.declarations)
            expected = oracle.least_marks()
            for declaration in maker.world.declarations:
                marks = tuple(expected[declaration.name, name] for name in oracle.parameters(declaration))
                self.assertEqual(least_marks(maker.world, declaration.name), marks)
                less += marks != tuple(oracle.parameters(declaration).values())
        self.assertGreater(less, 20)

    def test_least_marks_are_right(self):
        """A world in which all marks are the least ones is right, and they stay the least ones."""
        for maker in random_makers(60):
            given = []
            for declaration in maker.world.declarations:
                if isinstance(declaration, Role):
                    names = [name for name, _ in declaration.marks]
                    marks = dict(zip(names, least_marks(maker.world, declaration.name)))
                    declaration = Role(declaration.name, *declaration.methods, **marks)
                given.append(declaration)
            world = World(*given)
            for declaration in given:
                if isinstance(declaration, Role):
                    marks = tuple(mark for _, mark in declaration.marks)
                    self.assertEqual(least_marks(world, declaration.name), marks)


if __name__ == "__main__":
    unittest.main()
