"""The largest worlds, shapes, paths and values: the functions of worlds end quickly for them."""

import itertools
import random
import time
import unittest
from unittest import mock

from samples import boxes, cycles, farm, numbered, read, way
from shapetypes.calls import called, dead_ways, overlaps
from shapetypes.declarations import Kind, Method, Role, Way
from shapetypes.errors import (
    InvalidAnswer, InvalidKinds, InvalidUse, InvalidWorld, NotTaken, TooLarge, UnknownName,
)
from shapetypes.fitting import check_decision, decide, fits
from shapetypes.members import Narrower, members
from shapetypes.shapes import Atom, Shape
from shapetypes.worlds import World, least_marks
from values import large_shape, shared_dict, shared_list, shared_tuple

# The slowest of these tests takes about three seconds.
SECONDS = 60
NAMES = [f"K{number}" for number in range(12)]


def full_world(seed, results):
    """A world of the largest size, in which all kinds and roles have the same methods and allow all uses."""
    chance = random.Random(seed)
    every = Shape.of_names(*NAMES)

    def some(many):
        return Shape.of_names(*chance.sample(NAMES, many))

    def methods(many):
        made = []
        for number in range(many):
            ways = [Way(some(results), some(6), some(6)) for _ in range(3)]
            made.append(Method(f"m{number}", *ways, Way(some(results), every, every)))
        return made

    roles = []
    for number in range(8):
        swap = Method("swap", way(f"R{(number + 1) % 8}[U, T]", "T", "U"))
        roles.append(Role(f"R{number}", *methods(3), Method("get", way("T | U")), swap, T="both", U="both"))
    return World(*[Kind(name, *methods(5)) for name in NAMES], *roles)


class Speed(unittest.TestCase):

    def setUp(self):
        self.start = time.perf_counter()

    def tearDown(self):
        self.assertLess(time.perf_counter() - self.start, SECONDS)

    def outcomes(self, world, shapes):
        """How often one of the shapes fits another one, or does not, or too many pairs are reached."""
        told = {True: 0, False: 0, None: 0}
        for one, other in itertools.product(shapes, repeat=2):
            try:
                told[fits(world, one, other)] += 1
            except TooLarge:
                told[None] += 1
        return told

    def test_fitting_in_the_largest_worlds(self):
        kinds = [read(name) for name in NAMES]
        self.assertEqual(self.outcomes(full_world(1, 1), kinds), {True: 144, False: 0, None: 0})
        for results in (2, 3):
            self.assertEqual(self.outcomes(full_world(1, results), kinds), {True: 0, False: 0, None: 144})

    def test_asking_very_many_times(self):
        world = full_world(2, 1)
        chance = random.Random(3)
        for _ in range(2000):
            one, other = (Shape.of_names(*chance.sample(NAMES, chance.randint(1, 3))) for _ in range(2))
            self.outcomes(world, [one, other])
            shape = Shape(Atom("R1", one, other))
            self.assertTrue(world.allows(shape, ("get", ()), ("m1", ("K1", "K2"))))
            self.assertEqual(world.result(shape, ("get", ())), one | other)
            self.assertEqual(members(world, read(chance.choice(NAMES))), tuple(NAMES))

    def test_worlds_that_are_made_very_many_times(self):
        declarations = full_world(4, 2).declarations
        for _ in range(200):
            self.assertEqual(World(*declarations).kinds, tuple(NAMES))

    def test_many_derivations(self):
        world = full_world(5, 1)
        for one, other in itertools.product(NAMES, repeat=2):
            answer = decide(world, read(one), read(other))
            self.assertEqual(check_decision(world, read(one), read(other), answer), "derivation")

    def test_long_paths(self):
        world = full_world(6, 2)
        chance = random.Random(7)
        path = [(f"m{chance.randrange(5)}", tuple(chance.choices(NAMES, k=2))) for _ in range(100000)]
        for text in ("K1", " | ".join(NAMES)):
            self.assertTrue(world.allows(read(text), *path))
            self.assertTrue(world.result(read(text), *path) < Shape.of_names(*NAMES) | read("Object"))

    def test_large_shapes(self):
        world = cycles()
        shape = Shape(*numbered("Box", 3000))
        for _ in range(20):
            self.assertEqual(list(world.each_use(shape)), [("next", ())])
            self.assertEqual(world.result(shape, *[("next", ())] * 1000), shape)
            self.assertTrue(world.is_plain(shape))
            with self.assertRaises(TooLarge):
                fits(world, shape, read("A | D"))

    def test_shapes_with_very_many_parts(self):
        world = World(
            Kind("Cat"), Role("A", Method("first", way("T")), Method("swap", way("A[U, T]")), T="out", U="out"),
            Role("B", Method("get", Way(Shape(Atom("A", large_shape("Cat", 2, 5), read("T"))))), T="out"),
        )
        shape = other = read("Cat")
        for _ in range(6):
            atoms = [Atom("A", one, two) for one in (shape, other) for two in (shape, other, read("Object"))]
            shape, other = Shape(*atoms), Shape(*atoms, Atom("Cat"))
        for _ in range(200):
            self.assertTrue(world.is_plain(shape))
            self.assertEqual(list(world.each_use(shape)), [("first", ()), ("swap", ())])
            self.assertEqual(list(world.each_use(other)), [])
            self.assertTrue(world.allows(shape, *[("swap", ())] * 10))
            self.assertFalse(world.allows(shape, *[("first", ())] * 7))
        self.assertEqual(world.result(shape, ("swap", ()), ("swap", ())), shape)
        self.assertIs(fits(world, shape, shape), True)
        self.assertIs(fits(world, other, shape), False)
        self.assertEqual(decide(world, shape, shape)[0], "derivation")
        self.assertEqual(members(world, shape), ())
        large = world.result(read("B[Cat]"), ("get", ()), ("first", ()))
        self.assertEqual(large, large_shape("Cat", 2, 5))
        self.assertEqual(dead_ways(world, shape.atoms[0]), ())

    def test_values_with_very_many_parts(self):
        world, cat = farm(), read("Cat")
        narrower = Narrower(world, cat)
        large = large_shape()
        for value in (shared_tuple(), shared_list(), shared_dict(), large, large.atoms[0], large.atoms):
            self.assertFalse(value in world)
            self.assertFalse(world.is_use(value) or world.is_use(("eat", value)) or world.is_use((value, ())))
            for error, call in (
                (UnknownName, lambda: world[value]), (InvalidWorld, lambda: World(value)),
                (InvalidWorld, lambda: World(Kind("Cat"), value)), (InvalidUse, lambda: world.allows(cat, value)),
                (InvalidUse, lambda: world.result(cat, ("eat", value))), (UnknownName, lambda: least_marks(world, value)),
                (InvalidAnswer, lambda: check_decision(world, cat, cat, value)),
                (InvalidAnswer, lambda: check_decision(world, cat, cat, ("use", value))),
                (InvalidAnswer, lambda: check_decision(world, cat, cat, ("use", (value,)))),
                (InvalidAnswer, lambda: check_decision(world, cat, cat, ("derivation", value))),
                (InvalidAnswer, lambda: check_decision(world, cat, cat, ("derivation", (value,)))),
                (InvalidAnswer, lambda: check_decision(world, cat, cat, ("derivation", ((Atom("Cat"), value),)))),
                (InvalidAnswer, lambda: check_decision(world, cat, cat, (value, ()))),
                (InvalidKinds, lambda: narrower(value)), (InvalidKinds, lambda: narrower((value,))),
                (InvalidKinds, lambda: narrower.is_complete(value)), (UnknownName, lambda: narrower.case_of(value)),
                (InvalidKinds, lambda: called(world, value, "eat")), (InvalidKinds, lambda: called(world, (value,), "eat")),
                (InvalidKinds, lambda: called(world, ("Cat",), "eat", value)),
                (InvalidKinds, lambda: called(world, ("Cat",), "eat", (value,))),
                (NotTaken, lambda: called(world, ("Cat",), value, ("Fish",))),
                (UnknownName, lambda: next(iter(overlaps(world, Atom("Cat"), value)))),
            ):
                with self.assertRaises(error):
                    call()

    def test_large_shapes_that_are_no_shapes_of_the_world(self):
        for world in (farm(), boxes()):
            for shape in (large_shape(), large_shape("Bird", 110), Shape(*numbered("Source", 3000))):
                self.assertFalse(world.is_plain(shape) or world.is_kind_set(shape))

    def test_very_many_arguments(self):
        world, kinds = farm(), ("Cat", "Dog", "Fish")
        with self.assertRaises(NotTaken) as caught:
            called(world, kinds, "eat", *[kinds] * 5000)
        self.assertEqual(caught.exception.use, ("Cat", ("eat", ("Cat",) * 5000)))
        self.assertFalse(world.allows(read("Cat"), ("eat", kinds * 100000)))

    def test_ways_of_the_largest_world(self):
        world = full_world(8, 1)
        for name in NAMES * 10:
            self.assertLessEqual(len(dead_ways(world, Atom(name))), 20)
            self.assertGreater(len(list(overlaps(world, Atom(name), "m0"))), 20)
            self.assertEqual(len(called(world, tuple(NAMES), "m0", tuple(NAMES), tuple(NAMES))), 12)

    def test_what_is_kept_has_an_end(self):
        world = cycles()
        with mock.patch("shapetypes.books.MAX_KEPT", 100000), mock.patch("shapetypes.numbering.MAX_SEEN", 10000):
            for atoms in itertools.product(numbered("Box", 30), repeat=2):
                shape = Shape(*atoms)
                self.assertEqual(len(decide(world, shape, read("A | D"))[1]), 12 * len(shape))
                self.assertEqual(members(world, shape), tuple("ABCDEFG"))
                self.assertLess(world.book().kept, 100001)
                self.assertLess(len(world.book()._seen), 100)

    def test_questions_of_very_many_shapes(self):
        """Answers stay the same, however much was asked before."""
        world = cycles()
        expected = decide(world, read("A"), read("A | D"))
        for number, atoms in enumerate(itertools.product(numbered("Box", 200), repeat=2)):
            shape = Shape(*atoms)
            self.assertIs(fits(world, shape, read("A | D")), True)
            if number % 1000 == 0:
                self.assertEqual(decide(world, read("A"), read("A | D")), expected)
                self.assertEqual(len(decide(world, shape, read("A | D"))[1]), 12 * len(shape))
            if number == 20000:
                break


if __name__ == "__main__":
    unittest.main()
