"""Shapes and uses of a world: is_plain, check_shape, is_kind_set, is_use, and the first errors (k09, k18)."""

import unittest

from makers import random_makers
from oracle import Oracle, Wrong
from samples import boxes, farm, read
from shapetypes.calls import dead_ways, overlaps
from shapetypes.declarations import Kind, Role
from shapetypes.errors import InvalidUse, UnknownName, WrongArguments
from shapetypes.fitting import are_alike, check_decision, decide, fits
from shapetypes.members import Narrower, members
from shapetypes.shapes import Atom, Shape
from shapetypes.worlds import World
from values import large_shape, values_besides

PLAIN = [
    "Never", "Cat", "Object", "Cat | Dog | Fish", "Cat | Object", "Source[Never]", "Source[Object]", "Sink[Never]",
    "Sink[Cat]", "Cell[Cat | Dog]", "Tag[Tag[Object]]", "Source[Sink[Cat]]", "Pair[Never, Object]",
    "Pair[Pair[Cat, Cat], Cell[Never]] | Dog", "Source[Source[Source[Source[Source[Source[Cat]]]]]]",
]
WRONG = {
    "Bird": (UnknownName, "Bird"), "T": (UnknownName, "T"), "eat": (UnknownName, "eat"), "cat": (UnknownName, "cat"),
    "Cat | Dove | Eagle": (UnknownName, "Dove"), "Bird[Cat]": (UnknownName, "Bird"),
    "Cat[Cat]": (WrongArguments, "Cat"), "Object[Cat]": (WrongArguments, "Object"), "Cat[Bird]": (WrongArguments, "Cat"),
    "Source": (WrongArguments, "Source"), "Source[Cat, Cat]": (WrongArguments, "Source"),
    "Pair[Cat]": (WrongArguments, "Pair"), "Source[Bird, Bird]": (WrongArguments, "Source"),
    "Source[Bird]": (UnknownName, "Bird"), "Source[Cat[Cat]]": (WrongArguments, "Cat"),
    "Sink[Object]": (WrongArguments, "Sink"), "Cell[Cat | Source[Cat]]": (WrongArguments, "Cell"),
    "Cell[Object | Cat]": (WrongArguments, "Cell"), "Cell[Sink[Cat]]": (WrongArguments, "Cell"),
    "Sink[Bird]": (UnknownName, "Bird"), "Sink[Source[Bird]]": (UnknownName, "Bird"),
    "Sink[Cell[Object]]": (WrongArguments, "Cell"), "Sink[Source]": (WrongArguments, "Source"),
    "Pair[Bird, Source]": (UnknownName, "Bird"), "Pair[Source, Bird]": (WrongArguments, "Source"),
    "Pair[Sink[Object], Bird]": (WrongArguments, "Sink"), "Pair[Cat, Bird]": (UnknownName, "Bird"),
    "Aaa | Bird | Cat": (UnknownName, "Aaa"), "Cell[Object] | Zebra": (WrongArguments, "Cell"),
    "Cell[Object] | Bird": (UnknownName, "Bird"), "Source | Source[Bird]": (WrongArguments, "Source"),
    "Source[Zebra] | Tag": (UnknownName, "Zebra"), "Tag[Source[Pair[Cat, Sink[Tag[Cat]]]]]": (WrongArguments, "Sink"),
    "Source[Source[Source[Source[Source[Source[Bird]]]]]]": (UnknownName, "Bird"),
}


def asking(world, shape):
    """All calls that first check this shape, with shapes beside it that are right."""
    other = Shape()
    wrong_use = ("name", ("Bird",))
    return [
        lambda: world.check_shape(shape), lambda: world.check_shape(shape=shape), lambda: world.allows(shape),
        lambda: world.allows(shape, wrong_use), lambda: world.result(shape), lambda: world.result(shape, wrong_use),
        lambda: list(world.each_use(shape)), lambda: list(world.each_use(shape=shape)),
        lambda: fits(world, shape, other), lambda: fits(world, other, shape), lambda: decide(world, shape, other),
        lambda: decide(world, other, shape), lambda: are_alike(world, shape, other),
        lambda: are_alike(world, other, shape), lambda: check_decision(world, shape, other, None),
        lambda: check_decision(world, other, shape, None), lambda: members(world, shape),
        lambda: Narrower(world, shape), lambda: Narrower(world, other, shape, other),
    ]


class Shapes(unittest.TestCase):

    def raises(self, expected, call):
        with self.assertRaises(expected[0]) as caught:
            call()
        self.assertEqual(caught.exception.word, expected[1])

    def test_plain_shapes(self):
        world = boxes()
        for text in PLAIN:
            shape = read(text)
            self.assertIs(world.is_plain(shape), True)
            self.assertIs(world.is_plain(shape=shape), True)
            self.assertIsNone(world.check_shape(shape))

    def test_other_shapes(self):
        world = boxes()
        for text, expected in WRONG.items():
            shape = read(text)
            self.assertIs(world.is_plain(shape), False, text)
            for call in asking(world, shape):
                self.raises(expected, call)

    def test_errors_come_before_anything_is_yielded(self):
        world = boxes()
        with self.assertRaises(UnknownName):
            next(iter(world.each_use(read("Cat | Zebra"))))
        self.assertEqual(next(iter(world.each_use(read("Cat")))), ("name", ()))

    def test_of_two_shapes_the_first_one(self):
        world = boxes()
        one, other = read("Aaa"), read("Source")
        for ask in (fits, decide, are_alike, lambda *given: check_decision(*given, None)):
            self.raises((UnknownName, "Aaa"), lambda: ask(world, one, other))
            self.raises((WrongArguments, "Source"), lambda: ask(world, other, one))
        self.raises((WrongArguments, "Source"), lambda: Narrower(world, Shape(), other, one))

    def test_atoms(self):
        world = boxes()
        for text, expected in WRONG.items():
            atoms = read(text).atoms
            if len(atoms) == 1:
                for call in (
                    lambda: dead_ways(world, atoms[0]), lambda: dead_ways(world=world, atom=atoms[0]),
                    lambda: list(overlaps(world, atoms[0], "get")), lambda: next(iter(overlaps(world, atoms[0], None))),
                ):
                    self.raises(expected, call)

    def test_words_are_the_names_of_atoms(self):
        name = "".join(["Bi", "rd"])
        with self.assertRaises(UnknownName) as caught:
            boxes().check_shape(Shape(Atom(name)))
        self.assertIs(caught.exception.word, name)

    def test_kind_sets(self):
        world = boxes()
        for text in ("Never", "Cat", "Cat | Dog", "Cat | Dog | Fish"):
            self.assertIs(world.is_kind_set(read(text)), True)
            self.assertIs(world.is_kind_set(shape=read(text)), True)
        for text in ("Object", "Cat | Object", "Bird", "Cat | Bird", "Source[Cat]", "Cat[Cat]", "Cat | Dog[Cat]",
                     "Tag[Cat] | Cat", "T"):
            self.assertIs(world.is_kind_set(read(text)), False)
        self.assertIs(farm().is_kind_set(read("Eater")), False)

    def test_the_empty_world(self):
        world = World()
        for text in ("Never", "Object"):
            self.assertIs(world.is_plain(read(text)), True)
        self.assertIs(world.is_kind_set(Shape()), True)
        self.assertIs(world.is_kind_set(read("Object")), False)
        self.raises((UnknownName, "Cat"), lambda: world.check_shape(read("Cat | Dog | Object")))
        self.assertIs(world.is_use(("eat", ())), True)
        self.assertIs(world.is_use(("eat", ("Cat",))), False)

    def test_marks_decide_on_arguments(self):
        for mark in ("none", "out", "in", "both"):
            world = World(Kind("Cat"), Role("Box", T=mark, U="none"))
            self.assertIs(world.is_plain(read("Box[Object, Object]")), mark in ("none", "out"))
            self.assertIs(world.is_plain(read("Box[Cat, Object]")), True)
            world = World(Kind("Cat"), Role("Box", U="none", T=mark))
            self.assertIs(world.is_plain(read("Box[Object, Cat | Object]")), mark in ("none", "out"))
            self.assertIs(world.is_plain(read("Box[Object, Never]")), True)

    def test_random_shapes(self):
        """Shapes of one world are mostly no shapes of another one."""
        plain = wrong = 0
        makers = random_makers(80)
        for one, other in zip(makers, makers[1:]):
            oracle = Oracle(one.world.declarations)
            for _ in range(10):
                shape = other.shape(3)
                self.assertIs(one.world.is_plain(one.shape(3)), True)
                self.assertIs(one.world.is_kind_set(shape), oracle.is_kind_set(shape))
                try:
                    oracle.check(shape)
                    self.assertIs(one.world.is_plain(shape), True)
                    plain += 1
                except Wrong as error:
                    self.assertIs(one.world.is_plain(shape), False)
                    with self.assertRaises((UnknownName, WrongArguments)) as caught:
                        one.world.check_shape(shape)
                    self.assertEqual((type(caught.exception).__name__, caught.exception.word), error.args)
                    wrong += 1
        self.assertGreater(min(plain, wrong), 50)

    def test_very_large_shapes(self):
        world = World(Kind("Cat"), Role("A", T="out", U="none"), Role("B", T="in"))
        self.assertIs(world.is_plain(large_shape("Cat", 2)), True)
        for shape, expected in (
            (large_shape(), (WrongArguments, "A")), (large_shape("Dog", 2), (UnknownName, "Dog")),
            (large_shape("Cat", 1), (WrongArguments, "A")), (large_shape("A", 2), (WrongArguments, "A")),
            (large_shape("Cat", 2) | Atom("B", large_shape("Cat", 2, 5)), (WrongArguments, "B")),
        ):
            for call in asking(world, shape):
                self.raises(expected, call)


class Uses(unittest.TestCase):

    def test_uses(self):
        world = farm()
        for name in ("eat", "a", "Object", "x" * 20, "nothing_1", "Cat"):
            for kinds in ((), ("Cat",), ("Cat", "Cat"), ("Fish", "Dog", "Cat"), ("Dog",) * 1000):
                self.assertIs(world.is_use((name, kinds)), True)
                self.assertIs(world.is_use(value=(name, kinds)), True)

    def test_other_values(self):
        world = farm()
        given = [("eat", (value,)) for value in values_besides("Object", "Eater", "Bird", "T", "cat", Shape(), ())]
        given += [("eat", ("Cat", value)) for value in values_besides("Eater", "Bird", Shape.of_names("Cat"))]
        given += [("eat", value) for value in values_besides("Cat", Shape.of_names("Cat"), ["Cat"])
                  if value != ()]
        given += [(value, ("Cat",)) for value in values_besides("Never", Shape.of_names("eat"), "a" * 21, "eat ")]
        given = [value for value in given if value != ("eat", ("Cat",)) and value != ("eat", ("Cat", "Dog"))]
        given += [("eat",), ("eat", ("Cat",), ()), ["eat", ("Cat",)], ("eat", ["Cat"]), (("Cat",), "eat"), "eat", ("e", "")]
        for value in values_besides(*given, Atom("Cat"), read("Cat"), world):
            self.assertIs(world.is_use(value), False)
            for spot, path in enumerate([(value, value), (("eat", ("Fish",)), value, None)]):
                for call in (lambda: world.allows(read("Cat"), *path), lambda: world.result(read("Cat"), *path),
                             lambda: world.allows(Shape(), *path), lambda: world.result(read("Object"), *path)):
                    with self.assertRaises(InvalidUse) as caught:
                        call()
                    self.assertEqual((type(caught.exception.spot), caught.exception.spot), (int, spot))


if __name__ == "__main__":
    unittest.main()
