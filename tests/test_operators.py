"""Shapes as sets of atoms: len, bool, ==, !=, in, |, &, <=, <, >= and >."""

import itertools
import operator
import unittest

from shapetypes.shapes import Atom, Shape
from values import values_besides, way

ATOMS = [Atom("Cat"), Atom("Dog"), Atom("Box", Shape.of_names("Cat")), Atom("Box", Shape.of_names("Cat", "Dog"))]


def all_sets():
    """All sets of positions of the atoms."""
    sets = []
    for many in range(len(ATOMS) + 1):
        sets.extend(frozenset(spots) for spots in itertools.combinations(range(len(ATOMS)), many))
    return sets


def shape_of(spots):
    return Shape(*[ATOMS[spot] for spot in spots])


class Operators(unittest.TestCase):

    def test_all_pairs(self):
        for one, other in itertools.product(all_sets(), repeat=2):
            s, t = shape_of(one), shape_of(other)
            self.assertIs(s == t, one == other)
            self.assertIs(s != t, one != other)
            self.assertIs(s <= t, one <= other)
            self.assertIs(s < t, one < other)
            self.assertIs(s >= t, one >= other)
            self.assertIs(s > t, one > other)
            self.assertEqual((s | t).text, shape_of(one | other).text)
            self.assertEqual((s & t).text, shape_of(one & other).text)
            self.assertIs(type(s | t), Shape)
            self.assertIs(type(s & t), Shape)

    def test_atoms_of_shapes(self):
        for spots in all_sets():
            shape = shape_of(spots)
            self.assertEqual(len(shape), len(spots))
            self.assertIs(bool(shape), len(spots) > 0)
            for spot, atom in enumerate(ATOMS):
                self.assertIs(atom in shape, spot in spots)
                self.assertIs(Atom(atom.name, *atom.arguments) in shape, spot in spots)
                self.assertEqual((shape | atom).text, shape_of(spots | {spot}).text)
            self.assertIs(Atom("Fish") in shape, False)
            self.assertIs(Atom("Box") in shape, False)

    def test_operators_change_nothing(self):
        s, t = Shape.of_names("Cat", "Dog"), Shape.of_names("Dog", "Fish")
        self.assertEqual(((s | t).text, (s & t).text), ("Cat | Dog | Fish", "Dog"))
        self.assertEqual((s | Atom("A")).text, "A | Cat | Dog")
        self.assertEqual((s.text, t.text, s.atoms), ("Cat | Dog", "Dog | Fish", (Atom("Cat"), Atom("Dog"))))
        u = s
        u |= t
        u &= Shape.of_names("Dog", "Cat")
        self.assertEqual((s.text, u.text), ("Cat | Dog", "Cat | Dog"))

    def test_equality_with_other_values(self):
        for shape in (Shape(), Shape.of_names("Cat")):
            for value in values_besides("Cat", Atom("Cat"), (Atom("Cat"),), way()):
                self.assertIs(shape == value, False)
                self.assertIs(value == shape, False)
                self.assertIs(shape != value, True)
                self.assertIs(value != shape, True)

    def test_other_values_are_not_in(self):
        for shape in (Shape(), Shape.of_names("Cat")):
            for value in values_besides("Cat", shape, Shape(), way()):
                self.assertIs(value in shape, False)
                self.assertIs(value not in shape, True)

    def test_other_values_raise_a_type_error(self):
        orders = (operator.lt, operator.le, operator.gt, operator.ge)
        for shape in (Shape(), Shape.of_names("Cat")):
            for value in values_besides("Cat", way()):
                for operate in (*orders, operator.or_, operator.and_, operator.add, operator.sub, operator.xor):
                    with self.assertRaises(TypeError):
                        operate(shape, value)
                    with self.assertRaises(TypeError):
                        operate(value, shape)

    def test_atoms_stand_only_behind_a_bar(self):
        shape, atom = Shape.of_names("Cat"), Atom("Cat")
        for operate in (operator.lt, operator.le, operator.gt, operator.ge, operator.and_):
            with self.assertRaises(TypeError):
                operate(shape, atom)
            with self.assertRaises(TypeError):
                operate(atom, shape)
        with self.assertRaises(TypeError):
            atom | shape
        self.assertEqual(shape | atom, shape)

    def test_no_other_operators(self):
        shape = Shape.of_names("Cat")
        for operate in (operator.add, operator.sub, operator.xor):
            with self.assertRaises(TypeError):
                operate(shape, shape)
        with self.assertRaises(TypeError):
            shape[0]


if __name__ == "__main__":
    unittest.main()
