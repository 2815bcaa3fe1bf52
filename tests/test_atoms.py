"""Atoms: names, arguments, depths and equality."""

import unittest

from shapetypes.errors import InvalidAtom
from shapetypes.shapes import Atom, Shape
from values import values_besides, way

LETTERS = "ABCDEFGHIJKLMNOPQRSTUVWXYZabcdefghijklmnopqrstuvwxyz"
OTHERS = [chr(code) for code in range(32, 127) if chr(code) not in LETTERS + "0123456789_"]
BEYOND = ["\n", "\t", "\0", "\x7f", "\u00e9", "\u00df", "\u00b2", "\u0661", "\uff21", "\u4e00"]
NO_NAMES = ["", "Never", "1", "1a", "_", "_a", "a" * 21, "A" + "_" * 20, "a ", " a", "a\n", "Cat | Dog", "A[B]"]


def deep(levels):
    """A shape of this depth."""
    shape = Shape.of_names("Cat")
    for _ in range(levels):
        shape = Shape(Atom("A", shape))
    return shape


class Atoms(unittest.TestCase):

    def part_of(self, *values):
        with self.assertRaises(InvalidAtom) as caught:
            Atom(*values)
        return caught.exception.part

    def test_names(self):
        for name in [*LETTERS, "a0", "A_", "Cat", "a" * 20, "Z9_" + "z" * 17, "Object", "never", "Never1", "Neve"]:
            atom = Atom(name)
            self.assertEqual((atom.name, atom.arguments, atom.text), (name, (), name))
            self.assertEqual(Shape.of_names(name).text, name)

    def test_no_names(self):
        for name in [*NO_NAMES, *"0123456789_", *OTHERS, *BEYOND]:
            self.assertEqual(self.part_of(name), "name", repr(name))
        for sign in [*OTHERS, *BEYOND]:
            self.assertEqual(self.part_of("a" + sign), "name", repr(sign))
            self.assertEqual(self.part_of("a" + sign + "b"), "name", repr(sign))

    def test_names_of_other_kinds(self):
        for value in values_besides(Shape(), Atom("Cat"), way()):
            self.assertEqual(self.part_of(value), "name")
            with self.assertRaises(InvalidAtom) as caught:
                Shape.of_names("Cat", value, "Dog")
            self.assertEqual(caught.exception.part, "name")

    def test_arguments(self):
        cat, never = Shape.of_names("Cat"), Shape()
        atom = Atom("Map", cat, never, cat)
        self.assertIsInstance(atom.arguments, tuple)
        self.assertEqual(len(atom.arguments), 3)
        for argument, given in zip(atom.arguments, (cat, never, cat)):
            self.assertIs(argument, given)
        self.assertEqual(atom.text, "Map[Cat, Never, Cat]")

    def test_arguments_of_other_kinds(self):
        cat = Shape.of_names("Cat")
        for value in values_besides(Atom("Cat"), way(), "Cat"):
            for part, values in enumerate([(value, cat), (cat, value, value), (cat, cat, value)]):
                self.assertEqual(self.part_of("A", *values), part)
                self.assertIs(type(self.part_of("A", *values)), int)

    def test_lists_are_no_arguments(self):
        self.assertEqual(self.part_of("A", [Shape()]), 0)
        self.assertEqual(self.part_of("A", (Shape(),)), 0)

    def test_depths(self):
        for depth in range(7):
            shape = deep(depth)
            self.assertEqual(shape.text, "A[" * depth + "Cat" + "]" * depth)
            self.assertEqual(Shape.read(shape.text), shape)
        self.assertEqual(self.part_of("A", deep(6)), "depth")
        self.assertEqual(self.part_of("A", Shape(), deep(6)), "depth")
        self.assertEqual(self.part_of("A", deep(6), deep(5)), "depth")

    def test_depth_is_the_greatest_one(self):
        wide = deep(6) | Atom("Dog")
        self.assertEqual(self.part_of("A", wide), "depth")
        self.assertEqual(self.part_of("A", deep(5) | deep(6) | deep(1)), "depth")
        self.assertEqual(Atom("A", deep(5) | Atom("Dog"), deep(2)).name, "A")

    def test_never_has_the_depth_0(self):
        shape = Shape()
        for _ in range(6):
            shape = Shape(Atom("A", shape))
        self.assertEqual(shape.text, "A[" * 6 + "Never" + "]" * 6)
        self.assertEqual(self.part_of("A", shape), "depth")

    def test_the_first_broken_rule(self):
        self.assertEqual(self.part_of("1", "x", deep(6)), "name")
        self.assertEqual(self.part_of(None, None), "name")
        self.assertEqual(self.part_of("A", deep(6), "x", None), 1)
        self.assertEqual(self.part_of("A", deep(6), deep(6), True), 2)

    def test_by_name(self):
        self.assertEqual(Atom(name="Cat"), Atom("Cat"))
        with self.assertRaises(InvalidAtom) as caught:
            Atom(name="")
        self.assertEqual(caught.exception.part, "name")

    def test_equality(self):
        cat, dog = Shape.of_names("Cat"), Shape.of_names("Dog")
        self.assertTrue(Atom("A", cat, dog) == Atom("A", Shape.read("Cat"), Shape.of_names("Dog")))
        self.assertFalse(Atom("A", cat, dog) != Atom("A", cat, dog))
        different = [Atom("A"), Atom("B"), Atom("A", cat), Atom("B", cat), Atom("A", dog), Atom("A", cat, cat),
                     Atom("A", cat, dog), Atom("A", dog, cat), Atom("A", Shape()), Atom("A", cat | dog)]
        for spot, atom in enumerate(different):
            for other, value in enumerate(different):
                self.assertIs(atom == value, spot == other)
                self.assertIs(atom != value, spot != other)

    def test_equality_with_other_values(self):
        atom = Atom("Cat")
        for value in values_besides("Cat", Shape(atom), Shape(), way()):
            self.assertIs(atom == value, False)
            self.assertIs(value == atom, False)
            self.assertIs(atom != value, True)

    def test_no_operators(self):
        atom = Atom("Cat")
        for value in values_besides("Cat", atom, Atom("Dog"), Shape(atom), way()):
            for operate in (lambda: atom < value, lambda: atom <= value, lambda: atom > value, lambda: atom >= value,
                            lambda: atom | value, lambda: atom & value, lambda: value & atom, lambda: atom + value):
                with self.assertRaises(TypeError):
                    operate()
            with self.assertRaises(TypeError):
                value in atom

    def test_properties_cannot_be_set(self):
        atom = Atom("Cat")
        for name in ("name", "arguments", "text"):
            with self.assertRaises(AttributeError):
                setattr(atom, name, "Dog")
        self.assertEqual(atom.text, "Cat")


if __name__ == "__main__":
    unittest.main()
