"""Members of shapes (k40, k41), kinds sorted by cases (k42, k43), and their first errors (k48)."""

import itertools
import unittest

from makers import random_makers
from oracle import Oracle
from samples import boxes, farm, large_kinds, read, way
from shapetypes.declarations import Kind, Method
from shapetypes.errors import InvalidKinds, UnknownName
from shapetypes.fitting import fits
from shapetypes.members import Narrower, members
from shapetypes.shapes import Atom, Shape
from shapetypes.worlds import World
from values import shared_tuple, values_besides


class Members(unittest.TestCase):

    def test_the_worlds_of_the_document(self):
        world = farm()
        for text, expected in (
            ("Never", ()), ("Object", ("Cat", "Dog", "Fish")), ("Cat", ("Cat", "Dog")), ("Dog", ("Dog",)),
            ("Fish", ("Cat", "Dog", "Fish")), ("Eater", ("Cat", "Dog")), ("Cat | Dog", ("Cat", "Dog")),
            ("Cat | Dog | Fish", ("Cat", "Dog", "Fish")),
        ):
            self.assertEqual(members(world, read(text)), expected)
            self.assertEqual(members(world=world, shape=read(text)), expected)
            self.assertIs(type(members(world, read(text))), tuple)

    def test_shapes_with_arguments(self):
        world = World(*boxes().declarations, Kind("Jar", Method("get", way("Cat | Fish"))),
                      Kind("Bin", Method("put", way("Jar", "Cat | Dog"))))
        for text, expected in (
            ("Source[Object]", ("Jar",)), ("Source[Cat]", ()), ("Source[Cat | Fish]", ("Jar",)), ("Sink[Dog]", ("Bin",)),
            ("Sink[Fish]", ()), ("Sink[Never]", ("Cat", "Dog", "Fish", "Jar", "Bin")), ("Tag[Cat]", ("Cat", "Dog")),
            ("Cell[Cat]", ()), ("Source[Object] | Sink[Cat]", ("Cat", "Dog", "Fish", "Jar", "Bin")),
        ):
            self.assertEqual(members(world, read(text)), expected, text)

    def test_the_order_of_kinds(self):
        declarations = farm().declarations
        for order in itertools.permutations(declarations):
            world = World(*order)
            self.assertEqual(members(world, read("Object")), world.kinds)
            expected = tuple(kind for kind in world.kinds if kind != "Fish")
            self.assertEqual(members(world, read("Eater")), expected)

    def test_the_empty_world(self):
        self.assertEqual(members(World(), read("Object")), ())
        self.assertEqual(members(World(), Shape()), ())

    def test_random_worlds(self):
        sizes = {}
        for maker in [*random_makers(60, kinds=4), *random_makers(30, kinds=4, roles=1, even=True, methods=2)]:
            oracle = Oracle(maker.world.declarations)
            shapes = [maker.shape() for _ in range(5)]
            told = [members(maker.world, shape) for shape in shapes]
            for shape, kinds in zip(shapes, told):
                self.assertEqual(kinds, oracle.members(shape))
                sizes[len(kinds)] = sizes.get(len(kinds), 0) + 1
            for one, other in itertools.permutations(range(5), 2):
                # Point [50]: of fitting shapes, and of two together.
                if fits(maker.world, shapes[one], shapes[other]):
                    self.assertLessEqual(set(told[one]), set(told[other]))
                both = members(maker.world, shapes[one] | shapes[other])
                self.assertLessEqual({*told[one], *told[other]}, set(both))
        self.assertEqual(sorted(sizes), [0, 1, 2, 3, 4])

    def test_members_of_two_shapes_can_be_more(self):
        world = World(Kind("Cat", Method("a", way("Cat"))), Kind("Dog", Method("b", way("Dog"))), Kind("Fish"))
        self.assertEqual((members(world, read("Cat")), members(world, read("Dog"))), (("Cat",), ("Dog",)))
        self.assertEqual(members(world, read("Cat | Dog")), ("Cat", "Dog", "Fish"))

    def test_the_largest_world(self):
        world = World(*large_kinds(12))
        self.assertEqual(members(world, read("K0")), world.kinds)


class Narrowers(unittest.TestCase):

    def test_the_example(self):
        narrower = Narrower(farm(), read("Dog"), read("Eater"))
        self.assertEqual(narrower(("Fish", "Dog", "Cat")), (("Dog",), ("Cat",), ("Fish",)))
        self.assertEqual(narrower(kinds=("Fish", "Dog")), (("Dog",), (), ("Fish",)))
        self.assertEqual([narrower.case_of(kind) for kind in ("Cat", "Dog", "Fish")], [1, 0, None])
        self.assertEqual(narrower.case_of(kind="Cat"), 1)
        self.assertIs(narrower.is_complete(("Cat", "Dog")), True)
        self.assertIs(narrower.is_complete(("Cat", "Fish")), False)
        self.assertIs(narrower.is_complete(kinds=()), True)

    def test_cases(self):
        given = read("Dog"), read("Eater"), read("Dog"), Shape()
        narrower = Narrower(farm(), *given)
        self.assertIs(type(narrower.cases), tuple)
        self.assertEqual(len(narrower.cases), 4)
        for case, shape in zip(narrower.cases, given):
            self.assertIs(case, shape)
        self.assertEqual(Narrower(world=farm()).cases, ())
        with self.assertRaises(AttributeError):
            narrower.cases = ()

    def test_no_cases(self):
        narrower = Narrower(farm())
        self.assertEqual(narrower(("Dog", "Cat")), (("Dog", "Cat"),))
        self.assertEqual(narrower(()), ((),))
        self.assertIs(narrower.is_complete(()), True)
        self.assertIs(narrower.is_complete(("Cat",)), False)
        self.assertIsNone(narrower.case_of("Cat"))

    def test_the_first_case(self):
        narrower = Narrower(farm(), Shape(), read("Eater"), read("Object"), read("Dog"))
        self.assertEqual(narrower(("Dog", "Fish", "Cat")), ((), ("Dog", "Cat"), ("Fish",), (), ()))
        self.assertEqual([narrower.case_of(kind) for kind in ("Cat", "Dog", "Fish")], [1, 1, 2])

    def test_the_given_order(self):
        narrower = Narrower(farm(), read("Eater"))
        for order in itertools.permutations(("Cat", "Dog", "Fish")):
            told = narrower(order)
            self.assertEqual(told, (tuple(kind for kind in order if kind != "Fish"), ("Fish",)))
            self.assertEqual([type(part) for part in (told, *told)], [tuple] * 3)

    def test_random_cases(self):
        for maker in random_makers(60, kinds=4):
            oracle = Oracle(maker.world.declarations)
            cases = [maker.shape() for _ in range(maker.random.randint(0, 4))]
            narrower = Narrower(maker.world, *cases)
            kinds = tuple(maker.random.sample(maker.kinds, maker.random.randint(0, 4)))
            rows = [[] for _ in range(len(cases) + 1)]
            for kind in kinds:
                goes = [number for number, case in enumerate(cases) if kind in oracle.members(case)]
                rows[goes[0] if goes else -1].append(kind)
                self.assertEqual(narrower.case_of(kind), goes[0] if goes else None)
            self.assertEqual(narrower(kinds), tuple(tuple(row) for row in rows))
            self.assertIs(narrower.is_complete(kinds), not rows[-1])

    def test_values_that_are_no_kinds(self):
        narrower = Narrower(farm(), read("Dog"), read("Object"))
        for value in values_besides("Eater", "Object", "Bird", "Dog ", Shape.of_names("Cat"), Atom("Cat")):
            with self.assertRaises(UnknownName) as caught:
                narrower.case_of(value)
            self.assertIs(caught.exception.word, value)
            for spot, kinds in enumerate([(value,), ("Dog", value, value), ("Dog", "Cat", value, "Dog")]):
                self.refused(narrower, kinds, spot)

    def test_values_that_are_no_tuples(self):
        narrower = Narrower(farm(), read("Dog"))
        for value in values_besides("Cat", Shape.of_names("Cat"), Atom("Cat"), ["Cat", "Dog"], {"Cat": "Dog"}):
            if not isinstance(value, tuple):
                self.refused(narrower, value, None)

    def test_kinds_that_occur_earlier(self):
        narrower = Narrower(farm(), read("Dog"))
        self.refused(narrower, ("Dog", "Dog"), 1)
        self.refused(narrower, ("Dog", "Cat", "Fish", "Cat", "Bird"), 3)
        self.refused(narrower, ("Dog", "Bird", "Dog"), 1)
        self.refused(narrower, shared_tuple(), 0)

    def refused(self, narrower, kinds, spot):
        for call in (lambda: narrower(kinds), lambda: narrower.is_complete(kinds)):
            with self.assertRaises(InvalidKinds) as caught:
                call()
            error = caught.exception
            self.assertEqual((error.part, type(error.spot), error.spot), ("kinds", type(spot), spot))


if __name__ == "__main__":
    unittest.main()
