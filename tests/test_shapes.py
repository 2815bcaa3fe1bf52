"""Shapes: atoms, their order and their texts."""

import itertools
import unittest

from shapetypes.errors import InvalidShape
from shapetypes.shapes import Atom, Shape
from values import values_besides, way

NAMES = ["A", "A0", "AB", "A_", "Aa", "B", "Neve", "Neverm", "Nf", "a"]


def many_atoms():
    """Atoms whose texts differ by one character here and there."""
    plain = [Atom(name) for name in NAMES]
    shapes = [Shape(), *[Shape(atom) for atom in plain]]
    shapes = [*shapes, Shape(*plain[:2]), Shape(*plain[:3]), Shape(plain[0], plain[3]), Shape(*plain)]
    inner = [Atom("A", shape) for shape in shapes]
    pairs = [Atom("A", *pair) for pair in itertools.product(shapes[:8] + shapes[11:14], repeat=2)]
    outer = [Atom("A", Shape(atom)) for atom in inner]
    outer = [*outer, *[Atom("A", Shape(atom, plain[2])) for atom in inner]]
    outer = [*outer, *[Atom("A", Shape(atom), shapes[1]) for atom in inner]]
    outer = [*outer, *[Atom("A_", Shape(atom, other)) for atom, other in zip(inner, inner[1:])]]
    return [*plain, *inner, *pairs, *outer]


def told(atom):
    """The text of an atom as the document describes it."""
    arguments = []
    for shape in atom.arguments:
        arguments.append(" | ".join(sorted([told(part) for part in shape.atoms])) or "Never")
    return atom.name + (f"[{', '.join(arguments)}]" if arguments else "")


class Shapes(unittest.TestCase):

    def spot_of(self, *values):
        with self.assertRaises(InvalidShape) as caught:
            Shape(*values)
        return caught.exception.spot

    def test_the_shape_without_atoms(self):
        shape = Shape()
        self.assertEqual((shape.atoms, shape.text, len(shape), bool(shape)), ((), "Never", 0, False))
        self.assertEqual(Shape.of_names(), shape)
        self.assertEqual(Shape.read("Never"), shape)

    def test_atoms_are_ascending_and_each_once(self):
        cat, dog, fish = Atom("Cat"), Atom("Dog"), Atom("Fish")
        for order in itertools.permutations([cat, dog, fish, Atom("Cat"), Atom("Dog")]):
            shape = Shape(*order)
            self.assertIsInstance(shape.atoms, tuple)
            self.assertEqual(shape.atoms, (cat, dog, fish))
            self.assertEqual((shape.text, len(shape), bool(shape)), ("Cat | Dog | Fish", 3, True))

    def test_of_names(self):
        self.assertEqual(Shape.of_names("Dog", "Cat", "Dog").atoms, (Atom("Cat"), Atom("Dog")))

    def test_order_of_names(self):
        for names in itertools.permutations(["A", "A0", "AB", "A_", "Aa"]):
            self.assertEqual(Shape.of_names(*names).text, "A | A0 | AB | A_ | Aa")

    def test_order_of_names_and_brackets(self):
        cat = Shape.of_names("Cat")
        atoms = [Atom("A"), Atom("A0"), Atom("AZ"), Atom("A", cat), Atom("A_"), Atom("Aa")]
        for order in itertools.permutations(atoms):
            self.assertEqual(Shape(*order).text, "A | A0 | AZ | A[Cat] | A_ | Aa")

    def test_order_of_arguments(self):
        texts = ["A[B | C]", "A[B, C]", "A[B0]", "A[BB]", "A[B[C]]", "A[B]", "A[B_]", "A[Bb]"]
        self.assertEqual(texts, sorted(texts))
        atoms = [Shape.read(text).atoms[0] for text in texts]
        for atom in atoms:
            for other in atoms:
                self.assertEqual([part.text for part in Shape(atom, other).atoms], sorted({atom.text, other.text}))
        self.assertEqual(Shape(*reversed(atoms)).text, " | ".join(texts))

    def test_never_within_the_order(self):
        texts = ["A[Nev]", "A[Never, B]", "A[Never0]", "A[Never]", "A[Neverm]", "A[Nf]"]
        self.assertEqual(texts, sorted(texts))
        atoms = [Shape.read(text).atoms[0] for text in texts]
        for order in itertools.permutations(atoms):
            self.assertEqual(Shape(*order).text, " | ".join(texts))

    def test_order_of_many_atoms(self):
        atoms = many_atoms()
        for atom in atoms:
            self.assertEqual(atom.text, told(atom))
        texts = sorted({told(atom) for atom in atoms})
        for order in (atoms, atoms[::-1], atoms[::2] + atoms[1::2], atoms + atoms):
            shape = Shape(*order)
            self.assertEqual([told(atom) for atom in shape.atoms], texts)
            self.assertEqual(shape.text, " | ".join(texts))
            self.assertEqual(len(shape), len(texts))

    def test_equal_atoms_have_equal_texts(self):
        atoms = many_atoms()
        for atom in atoms:
            for other in atoms:
                self.assertIs(atom == other, told(atom) == told(other))
                self.assertIs(Shape(atom) == Shape(other), told(atom) == told(other))

    def test_nested_text(self):
        inner = Shape(Atom("Box", Shape.of_names("Fish", "Cat"), Shape()), Atom("Cat"))
        shape = Shape(Atom("Dog"), Atom("Box", inner, Shape.of_names("Dog")))
        self.assertEqual(shape.text, "Box[Box[Cat | Fish, Never] | Cat, Dog] | Dog")

    def test_other_values(self):
        atom = Atom("Cat")
        for value in values_besides("Cat", Shape(), Shape(atom), way()):
            for spot, values in enumerate([(value, atom, value), (atom, value), (atom, atom, value, None)]):
                self.assertEqual(self.spot_of(*values), spot)
                self.assertIs(type(self.spot_of(*values)), int)

    def test_a_list_of_atoms_is_no_atom(self):
        self.assertEqual(self.spot_of([Atom("Cat")]), 0)
        self.assertEqual(self.spot_of((Atom("Cat"),)), 0)

    def test_shapes_stay_as_they_are(self):
        names = ["Dog", "Cat"]
        atoms = [Atom(name) for name in names]
        shape = Shape(*atoms)
        before = shape.atoms
        atoms.append(Atom("Fish"))
        shape | Atom("Fish")
        shape & Shape()
        shape | Shape.of_names("Fish")
        self.assertEqual([atom.text for atom in before], ["Cat", "Dog"])
        self.assertEqual(shape.atoms, before)
        self.assertEqual([atom.name for atom in atoms], ["Dog", "Cat", "Fish"])

    def test_properties_cannot_be_set(self):
        shape = Shape.of_names("Cat")
        for name in ("atoms", "text"):
            with self.assertRaises(AttributeError):
                setattr(shape, name, ())
        self.assertEqual(shape.text, "Cat")

    def test_the_order_of_texts_too_long_to_be_written(self):
        def large(word):
            shape = Shape.of_names(word)
            for _ in range(5):
                shape = Shape(Atom("B", *[shape] * 500))
            return shape
        names = ["A", "A0", "AB", "A_", "Aa"]
        atoms = [Atom("A", large("A"), large(name), large(name)) for name in names]
        # Of these texts, "A," comes first, then those in which another sign stands behind the A.
        for order in itertools.permutations(atoms):
            shape = Shape(*order)
            self.assertEqual(len(shape), 5)
            for atom, expected in zip(shape.atoms, atoms):
                self.assertTrue(atom == expected)


if __name__ == "__main__":
    unittest.main()
