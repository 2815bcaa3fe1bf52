"""fit_table (k64)."""

import unittest

from makers import random_makers
from oracle import Oracle
from samples import boxes, cycles, farm, numbered, read
from shapetypes.errors import TooLarge, UnknownName, WrongArguments
from shapetypes.fitting import fits
from shapetypes.shapes import Shape
from shapetypes.tables import fit_table
from shapetypes.worlds import World


def plain_table(rows):
    """The table for rows of True and False."""
    lines = ["   " + "".join(str(number).rjust(3) for number in range(1, len(rows) + 1))]
    for number, row in enumerate(rows, start=1):
        lines.append(str(number).rjust(3) + "".join("  +" if sign else "  -" for sign in row))
    return "\n".join(lines)


class Tables(unittest.TestCase):

    def test_the_example(self):
        expected = "     1  2  3\n  1  +  +  +\n  2  -  +  +\n  3  -  -  +"
        self.assertEqual(fit_table(farm(), read("Dog"), read("Cat"), read("Fish")), expected)

    def test_no_shapes(self):
        for world in (farm(), World()):
            self.assertEqual(fit_table(world), "   ")
        self.assertEqual(fit_table(world=farm()), "   ")

    def test_one_shape(self):
        for text in ("Never", "Object", "Cat | Dog"):
            self.assertEqual(fit_table(farm(), read(text)), "     1\n  1  +")

    def test_the_same_shape_twice(self):
        cat = read("Cat")
        self.assertEqual(fit_table(farm(), cat, Shape(), cat), "     1  2  3\n  1  +  -  +\n  2  +  +  +\n  3  +  -  +")

    def test_more_than_nine_shapes(self):
        shapes = [read(text) for text in ("Cat", "Dog", "Fish", "Eater", "Never", "Object")] * 2
        told = fit_table(farm(), *shapes).split("\n")
        self.assertEqual(told[0], "     1  2  3  4  5  6  7  8  9 10 11 12")
        self.assertEqual(told[9][:6] + "|" + told[10], "  9  -| 10  +  -  +  +  -  +  +  -  +  +  -  +")
        self.assertEqual({len(line) for line in told}, {39})

    def test_more_than_ninety_nine_shapes(self):
        shapes = [read("Cat"), read("Fish")] * 51
        told = fit_table(farm(), *shapes)
        self.assertEqual(told, plain_table([[number % 2 == 1 or spot % 2 == 0 for number in range(102)] for spot in range(102)]))
        self.assertIn(" 99100101102\n", told)

    def test_random_shapes(self):
        seen = {"+": 0, "-": 0}
        for maker in random_makers(60):
            oracle = Oracle(maker.world.declarations)
            shapes = [maker.shape() for _ in range(maker.random.randint(0, 12))]
            rows = [[oracle.fits(one, other) for other in shapes] for one in shapes]
            told = fit_table(maker.world, *shapes)
            self.assertEqual(told, plain_table(rows))
            for sign in seen:
                seen[sign] += told.count(sign)
        self.assertGreater(min(seen.values()), 100, seen)

    def test_the_first_error(self):
        world, heavy = cycles(), Shape(*numbered("Box", 200))
        target, bird, wrong = read("A | D"), read("Bird"), read("A[Bird]")
        with self.assertRaises(TooLarge):
            fits(world, heavy, target)
        for shapes, expected in (
            ((bird,), UnknownName), ((wrong, bird), WrongArguments), ((target, wrong, bird), WrongArguments),
            ((target, bird, wrong), UnknownName), ((heavy, target), TooLarge), ((heavy, target, bird), TooLarge),
            ((target, heavy, bird), UnknownName), ((bird, heavy, target), UnknownName), ((target, heavy), TooLarge),
            ((heavy, bird, target), UnknownName), ((heavy, wrong), WrongArguments), ((target, read("B"), heavy, bird), UnknownName),
            ((target, read("B"), heavy, target), TooLarge),
        ):
            for _ in range(2):
                with self.assertRaises(expected) as caught:
                    fit_table(world, *shapes)
                self.assertIs(type(caught.exception), expected)

    def test_fields_of_the_first_error(self):
        with self.assertRaises(UnknownName) as caught:
            fit_table(boxes(), read("Cat"), read("Source[Bird] | Tag"), read("Mouse"))
        self.assertEqual(caught.exception.word, "Bird")


if __name__ == "__main__":
    unittest.main()
