"""Texts of shapes that are read."""

import itertools
import unittest

from shapetypes.errors import InvalidText
from shapetypes.shapes import Atom, Shape
from values import values_besides, way

VALID = {
    "Never": "Never",
    "Cat": "Cat",
    "Object": "Object",
    "Cat | Cat": "Cat",
    "Dog | Cat": "Cat | Dog",
    "Fish | Cat | Dog | Cat | Fish": "Cat | Dog | Fish",
    "Source[Never]": "Source[Never]",
    "Box[Never, Never] | Box[Never]": "Box[Never, Never] | Box[Never]",
    "Source[Dog | Cat] | Cat": "Cat | Source[Cat | Dog]",
    "Map[B | A, Source[D | C | D]] | A": "A | Map[A | B, Source[C | D]]",
    "S[A | B] | S[B | A] | S[B | A | B]": "S[A | B]",
    "A[B] | A | AB | A_": "A | AB | A[B] | A_",
    "A[" * 6 + "B" + "]" * 6: "A[" * 6 + "B" + "]" * 6,
    "Never1 | Neve | never": "Neve | Never1 | never",
    "a1_" + "x" * 17: "a1_" + "x" * 17,
}
INVALID = [
    "", " ", "|", " | ", ",", "[", "]", "[]", "[Cat]", " Cat", "Cat ", "Cat |", "Cat | ", "| Cat", " | Cat",
    "Cat|Dog", "Cat| Dog", "Cat |Dog", "Cat  | Dog", "Cat |  Dog", "Cat || Dog", "Cat | | Dog", "Cat, Dog",
    "Cat Dog", "Cat\n", "\nCat", "Cat\n| Dog", "Cat |\nDog", "Cat\t| Dog", "Cat[", "Cat]", "Cat[]", "Cat[ ]",
    "Cat[Dog", "Cat[Dog]]", "Cat[[Dog]]", "Cat[Dog][Dog]", "Cat [Dog]", "Cat[ Dog]", "Cat[Dog ]", "Cat[Dog] ",
    "Cat[Dog,Fish]", "Cat[Dog , Fish]", "Cat[Dog,  Fish]", "Cat[Dog, ]", "Cat[, Dog]", "Cat[Dog, , Fish]",
    "Cat[Dog,, Fish]", "Cat[Dog |]", "Cat[Dog | ]", "Cat[| Dog]", "Cat[Dog]Fish", "Cat[Dog] Fish", "Cat[Dog] |",
    "Cat[Dog], Fish", "Cat[Dog]| Fish", "Cat[Dog, Fish", "Never | Cat", "Cat | Never", "Never | Never",
    "Never[Cat]", "Never[Never]", "Never ", " Never", "Never]", "Never, Never", "Cat[Never | Dog]",
    "Cat[Dog | Never]", "Cat[Never | Never]", "Cat[Never[Dog]]", "Cat[NeverDog, ]", "1", "1Cat", "_", "_Cat",
    "Cat | 1", "Cat | _a", "Cat-Dog", "Cat.", "(Cat)", "Cat(Dog)", "Cat[1]", "Cat[_]", "Cat & Dog", "Cat%",
    "x" * 21, "Cat | " + "x" * 21, "Cat[" + "x" * 21 + "]", "Caf\u00e9", "Cat\u00b2", "\u0661", "\uff21",
    "Cat[Dog ", "Cat[Dog,", "Cat[Dog|", "Cat[Dog)", "Cat[Dog, Fish ", "Cat[Dog[Fish]", "Cat[Dog[Fish] ",
    "Cat[Dog\n]", "Cat[Dog,\nFish]", "Cat[Dog, Fish]\n", "'Cat'", "Cat;Dog", "Cat[Dog] | | Fish",
    "Cat[Dog]] | Fish",
]


def long_text(length):
    """A text of a shape with this length, from 1996 on."""
    return "abcd | " * 285 + "x" * (length - 1995)


class Reading(unittest.TestCase):

    def refused(self, value):
        with self.assertRaises(InvalidText) as caught:
            Shape.read(value)
        self.assertIs(caught.exception.value, value)

    def test_valid_texts(self):
        for text, expected in VALID.items():
            shape = Shape.read(text)
            self.assertIs(type(shape), Shape)
            self.assertEqual(shape.text, expected, text)

    def test_what_is_read_has_a_text_that_is_read_as_an_equal_shape(self):
        for text in VALID:
            shape = Shape.read(text)
            self.assertEqual(Shape.read(shape.text), shape)
            self.assertEqual(Shape.read(shape.text).text, shape.text)

    def test_parts(self):
        shape = Shape.read("Map[B | A, Never] | C")
        self.assertEqual(shape.atoms, (Atom("C"), Atom("Map", Shape.of_names("A", "B"), Shape())))

    def test_any_order(self):
        parts = ["A[C | B]", "A[B, C]", "A", "A_"]
        for order in itertools.permutations(parts):
            self.assertEqual(Shape.read(" | ".join(order)).text, "A | A[B | C] | A[B, C] | A_")

    def test_invalid_texts(self):
        for text in INVALID:
            with self.subTest(text=text):
                self.refused(text)

    def test_invalid_texts_within(self):
        for text in INVALID:
            # Others can be right where they stand within a shape.
            if "]" not in text and text not in ("Cat, Dog", "Never, Never"):
                with self.subTest(text=text):
                    self.refused("Box[" + text + "]")
                    self.refused("Box[Cat, " + text + "]")

    def test_one_sign_more_or_less(self):
        text = "Ab[C | D, Never] | E"
        for spot in range(len(text)):
            for sign in "|[], \n%":
                self.refused(text[:spot] + sign + text[spot:])
            if text[spot] in "|[], ":
                self.refused(text[:spot] + text[spot + 1:])
                for sign in "|[],. \n%)x":
                    if sign != text[spot]:
                        self.refused(text[:spot] + sign + text[spot + 1:])

    def test_lengths(self):
        for length in range(1996, 2001):
            text = long_text(length)
            self.assertEqual(len(text), length)
            self.assertEqual(Shape.read(text).text, "abcd | " + "x" * (length - 1995))
        self.refused(long_text(2001))
        self.refused(long_text(2001) + " | abcd")
        self.refused("A" * 20000)
        self.refused("A | " * 500)
        self.refused("A | " * 4999 + "A")

    def test_depths(self):
        for depth in range(7):
            text = "A[" * depth + "B" + "]" * depth
            self.assertEqual(Shape.read(text).text, text)
        for depth in (7, 8, 50, 400, 660):
            self.refused("A[" * depth + "B" + "]" * depth)
            self.refused("C | A[B, " + "A[" * (depth - 1) + "B" + "]" * depth)
            self.refused("A[" * depth + "Never" + "]" * depth)
            self.refused("A[" * depth)
            self.refused("A[" * depth + "]" * depth)
        self.refused("[" * 2000)
        self.refused("A[" * 1000)

    def test_other_values(self):
        # Texts among these values are no texts of shapes, besides one.
        for value in values_besides(Shape(), Atom("Cat"), way(), b"Never", ["Cat"], ("Cat",), {"Cat": "Cat"}):
            if value != "Never":
                self.refused(value)

    def test_by_name(self):
        self.assertEqual(Shape.read(text="Cat").text, "Cat")
        with self.assertRaises(InvalidText) as caught:
            Shape.read(text="")
        self.assertEqual(caught.exception.value, "")


if __name__ == "__main__":
    unittest.main()
