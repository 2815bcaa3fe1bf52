"""Large values: all functions that accept any value end quickly for them."""

import time
import unittest

from shapetypes.declarations import Kind, Method, Role, Way
from shapetypes.errors import InvalidAtom, InvalidDeclaration, InvalidShape, InvalidText
from shapetypes.shapes import Atom, Shape
from values import large_shape, shared_dict, shared_list, shared_tuple

SECONDS = 10


def mixed_shape(word):
    """A large shape with several atoms in each of the shapes in it."""
    shape = other = Shape.of_names(word)
    for _ in range(6):
        atoms = [Atom(f"A{number}", *[shape, other] * 8) for number in range(8)]
        shape, other = Shape(*atoms), Shape(*atoms[1:], Atom("B"))
    return shape


class Large(unittest.TestCase):

    def setUp(self):
        self.start = time.perf_counter()

    def tearDown(self):
        self.assertLess(time.perf_counter() - self.start, SECONDS)

    def test_equal_shapes(self):
        for make in (large_shape, mixed_shape):
            one, other = make("Cat"), make("Cat")
            self.assertTrue(one == other and one <= other and one >= other)
            self.assertFalse(one != other or one < other or one > other)
            self.assertTrue(one.atoms[0] == other.atoms[0] and one.atoms[-1] in other)
            self.assertEqual(len(one | other), len(one))
            self.assertTrue(one & other == one | other)
            self.assertEqual(len(Shape(*one.atoms, *other.atoms)), len(one))

    def test_different_shapes(self):
        for make in (large_shape, mixed_shape):
            one, other = make("Cat"), make("Dog")
            self.assertTrue(one != other)
            self.assertFalse(one == other or one <= other or one < other or one > other)
            self.assertFalse(one.atoms[0] == other.atoms[0] or one.atoms[0] in other)
            both = Shape(*other.atoms, *one.atoms)
            self.assertEqual(len(both), len(one) + len(other))
            self.assertEqual(len(one & other), 0)
            self.assertTrue(both.atoms[0] == one.atoms[0])
            self.assertTrue(both == one | other and both == other | one)
            self.assertTrue(one < both and other < both and both > one)

    def test_a_difference_far_behind(self):
        cat, dog = large_shape("Cat", 110, 5), large_shape("Dog", 110, 5)
        first, second = Atom("A", *[cat] * 110), Atom("A", *[cat] * 109, dog)
        self.assertFalse(first == second)
        self.assertTrue(Shape(second, first).atoms[0] == first)
        self.assertTrue(Shape(second, first, second).atoms[1] == second)

    def test_very_many_arguments(self):
        shape = large_shape("Cat", 20000, 6)
        self.assertTrue(shape == large_shape("Cat", 20000, 6))
        self.assertFalse(shape == large_shape("Cat", 20001, 6))

    def test_the_depth_of_a_large_shape(self):
        for make in (large_shape, mixed_shape):
            with self.assertRaises(InvalidAtom) as caught:
                Atom("A", make("Cat"), make("Dog"))
            self.assertEqual(caught.exception.part, "depth")

    def test_large_shapes_in_declarations(self):
        shape = large_shape()
        kind = Kind("Cat", Method("eat", Way(shape, Shape())))
        self.assertIs(kind.methods[0].ways[0].gives, shape)
        with self.assertRaises(InvalidDeclaration) as caught:
            Way(shape, Shape(), shape)
        self.assertEqual((caught.exception.rule, caught.exception.item), ("parameter", 1))

    def test_values_with_very_many_parts(self):
        for value in (shared_tuple(), shared_list(), shared_dict(), large_shape().atoms):
            shape = Shape.of_names("Cat")
            for error, create in (
                (InvalidAtom, lambda: Atom(value)), (InvalidAtom, lambda: Atom("A", value)),
                (InvalidAtom, lambda: Shape.of_names(value)), (InvalidShape, lambda: Shape(value)),
                (InvalidText, lambda: Shape.read(value)), (InvalidDeclaration, lambda: Way(value)),
                (InvalidDeclaration, lambda: Way(shape, value)), (InvalidDeclaration, lambda: Method(value)),
                (InvalidDeclaration, lambda: Method("eat", value)), (InvalidDeclaration, lambda: Kind(value)),
                (InvalidDeclaration, lambda: Kind("Cat", value)), (InvalidDeclaration, lambda: Role(value)),
                (InvalidDeclaration, lambda: Role("Cat", value)), (InvalidDeclaration, lambda: Role("Cat", T=value)),
                (InvalidDeclaration, lambda: Role.of("Cat", (), {"T": value})),
            ):
                with self.assertRaises(error):
                    create()
            self.assertFalse(value == shape or shape == value or value in shape)
            self.assertFalse(shape.atoms[0] == value)

    def test_numbers_with_1000_digits(self):
        for value in (10 ** 999, 10 ** 1000 - 1, -(10 ** 1000 - 1)):
            for error, create in (
                (InvalidAtom, lambda: Atom(value)), (InvalidShape, lambda: Shape(value)),
                (InvalidText, lambda: Shape.read(value)), (InvalidDeclaration, lambda: Role("Cat", T=value)),
            ):
                with self.assertRaises(error):
                    create()

    def test_very_many_atoms(self):
        names = [f"A{number}" for number in range(3000)]
        shape = Shape.of_names(*names, *names)
        self.assertEqual([atom.name for atom in shape.atoms], sorted(names))
        self.assertTrue(shape | Atom("A0") == shape)


if __name__ == "__main__":
    unittest.main()
