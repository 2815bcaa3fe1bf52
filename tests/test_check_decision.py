"""check_decision: answers of all kinds, right ones and wrong ones (k17)."""

import itertools
import unittest

from makers import random_makers
from oracle import Oracle
from samples import boxes, farm, read, way
from shapetypes.declarations import Kind, Method
from shapetypes.errors import InvalidAnswer
from shapetypes.fitting import check_decision, decide
from shapetypes.shapes import Atom, Shape
from shapetypes.worlds import World
from values import large_shape, shared_tuple, values_besides

FISH, CAT = ("eat", ("Fish",)), ("eat", ("Cat",))


class Answers(unittest.TestCase):

    def right(self, world, source, target, answer):
        self.assertIs(check_decision(world, source, target, answer), answer[0])

    def wrong(self, world, source, target, answer, part=None):
        with self.assertRaises(InvalidAnswer) as caught:
            check_decision(world, source, target, answer)
        self.assertEqual((type(caught.exception.part), caught.exception.part), (str, part or answer[0]))

    def test_forms(self):
        world, cat = farm(), read("Cat")
        pairs, path = ((Atom("Cat"), cat),), (CAT,)
        values = [
            ["derivation", pairs], ["use", path], ("derivation",), ("use",), ("derivation", pairs, ()), ("use", path, path),
            ("Derivation", pairs), ("uses", path), ("", ()), (None, ()), (b"use", path), (("use",), path), "derivation",
            "use", "us", pairs, path, (pairs, "derivation"), {"derivation": pairs}, ((), ()), ("fits", True), cat,
            (True, path), (["use"], path), (shared_tuple(), path), ("form", ()), ("x" * 20000, ()), Atom("use"),
        ]
        for value in values_besides(*values):
            for source, target in ((cat, cat), (cat, read("Dog")), (Shape(), cat)):
                self.wrong(world, source, target, value, "form")

    def test_values_that_are_no_pairs(self):
        world, cat = farm(), read("Cat")
        pair = (Atom("Cat"), cat)
        values = [
            [pair], pair, cat, Atom("Cat"), ("Cat", "Cat"), (list(pair),), ((Atom("Cat"),),), ((*pair, cat),),
            ((cat, cat),), ((Atom("Cat"), Atom("Cat")),), ((cat, Atom("Cat")),), (("Cat", "Cat"),), ((Atom("Cat"), "Cat"),),
            {pair[0].name: cat}, (), shared_tuple(), ((shared_tuple(), cat),), ((Atom("Cat"), shared_tuple()),),
        ]
        for value in values_besides(*values):
            self.wrong(world, cat, cat, ("derivation", value))
            if value != () and isinstance(value, tuple):
                self.wrong(world, Shape(), cat, ("derivation", value))
                self.wrong(world, cat, cat, ("derivation", (pair, *value)))
        self.right(world, cat, cat, ("derivation", (pair,)))
        self.right(world, Shape(), cat, ("derivation", ()))

    def test_values_that_are_no_paths(self):
        world, cat, dog = farm(), read("Cat"), read("Dog")
        values = [
            [CAT], CAT, "eat", cat, (list(CAT),), (("eat",),), (("eat", ["Cat"]),), (("eat", "Cat"),), (("eat", ("Eater",)),),
            (("eat", ("Bird",)),), (("1", ("Cat",)),), ((*CAT, ()),), (("eat", (None,)),), (CAT, None), (CAT, ["eat"]), (),
            shared_tuple(), (CAT, shared_tuple()), {"eat": ("Cat",)},
        ]
        for value in values_besides(*values):
            self.wrong(world, cat, dog, ("use", value))
            self.wrong(world, cat, Shape(), ("use", value))
        self.right(world, cat, dog, ("use", (CAT,)))
        self.right(world, cat, Shape(), ("use", (CAT, CAT)))

    def test_breaking_uses(self):
        world, cat, dog = farm(), read("Cat"), read("Dog")
        for path in ((CAT,), (FISH, CAT), (FISH, FISH, CAT), (FISH,) * 500 + (CAT,)):
            self.right(world, cat, dog, ("use", path))
            self.right(world, read("Cat | Dog"), dog, ("use", path))
        # The target does not allow the first two, and the source allows the others.
        for path in ((CAT, CAT), (("run", ()),), (), (FISH,), (FISH, FISH)):
            self.wrong(world, cat, dog, ("use", path))
        for path in ((), (FISH,), (CAT,)):
            self.wrong(world, cat, cat, ("use", path))
            self.wrong(world, dog, cat, ("use", path))
            self.wrong(world, Shape(), cat, ("use", path))

    def test_breaking_uses_can_go_on(self):
        # The source fails early, and the target allows everything that follows.
        world = World(Kind("Cat", Method("run", way("Cat"))), Kind("Dog"))
        run = ("run", ())
        for many in range(1, 5):
            self.right(world, read("Dog"), read("Cat"), ("use", (run,) * many))
        self.wrong(world, read("Dog"), read("Cat"), ("use", (run, run, ("rest", ()))))

    def test_breaking_uses_of_never(self):
        world = farm()
        for use in (CAT, ("eat", ()), ("any", ("Cat", "Cat", "Cat"))):
            self.right(world, read("Cat"), Shape(), ("use", (use,)))
            self.right(world, read("Cat"), Shape(), ("use", (use, FISH, use)))
            self.wrong(world, Shape(), Shape(), ("use", (use,)))
        self.wrong(world, read("Cat"), Shape(), ("use", (FISH,)))
        self.wrong(world, read("Cat"), Shape(), ("use", ()))
        self.wrong(world, read("Cat"), Shape(), ("use", (("any", ("Bird",)),)))
        self.right(world, read("Cat"), Shape(), ("use", (FISH, CAT)))

    def test_derivations(self):
        world, cat, eater = farm(), read("Cat"), read("Eater")
        own, more = (Atom("Cat"), eater), (Atom("Dog"), eater)
        for pairs in ((own,), (own, own), (more, own), (own, more, (Atom("Fish"), read("Object"))),
                      ((Atom("Eater"), cat), own), (own,) * 1000):
            self.right(world, cat, eater, ("derivation", pairs))
            self.right(world, Shape(), eater, ("derivation", pairs))
        for pairs in (
            (), (more,), ((Atom("Cat"), cat),), (own, (Atom("Fish"), eater)), (own, (Atom("Cat"), read("Dog"))),
            (own, (Atom("Cat"), Shape())), (own, (Atom("Object"), eater)),
        ):
            self.wrong(world, cat, eater, ("derivation", pairs))
        self.wrong(world, read("Cat | Dog"), eater, ("derivation", (own,)))
        self.right(world, read("Cat | Dog"), eater, ("derivation", (own, more)))

    def test_derivations_with_shapes_of_no_world(self):
        world, cat = farm(), read("Cat")
        own = (Atom("Cat"), cat)
        for pair in ((Atom("Bird"), read("Object")), (Atom("Cat"), read("Object | Bird")), (Atom("Cat", cat), read("Object")),
                     (Atom("Fish"), read("Eater[Cat]")), (Atom("T"), read("Object"))):
            self.wrong(world, cat, cat, ("derivation", (own, pair)))
        world = boxes()
        self.wrong(world, Shape(), Shape(), ("derivation", ((Atom("Cell", read("Object")), read("Object")),)))
        self.right(world, Shape(), Shape(), ("derivation", ((Atom("Cell", read("Cat")), read("Object")),)))

    def test_each_pair_is_needed(self):
        """Without one of the reached pairs, the others are no derivation."""
        left_out = 0
        for maker in random_makers(60, even=True, methods=2):
            world = maker.world
            for _ in range(5):
                source, target = maker.shape(), maker.shape()
                word, told = decide(world, source, target)
                if word == "derivation" and len(told) < 40:
                    for spot in range(len(told)):
                        self.wrong(world, source, target, (word, told[:spot] + told[spot + 1:]))
                        left_out += 1
                    self.right(world, source, target, (word, told[::-1] + told))
                    self.wrong(world, source, target, ("use", told))
        self.assertGreater(left_out, 200)

    def test_random_pairs(self):
        right = wrong = 0
        for maker in random_makers(60):
            world, oracle = maker.world, Oracle(maker.world.declarations)
            for _ in range(6):
                source, target = maker.shape(1, 1), maker.shape(1, 2)
                pairs = [(atom, target) for atom in source.atoms]
                pairs += [(atom, maker.shape(1)) for atom in maker.shape(1).atoms]
                pairs += [pair for atom, shape in pairs[:4] if not oracle.fails(atom, shape)
                          for pair in itertools.islice(oracle.steps(atom, shape), 6)]
                if oracle.is_derivation(source, target, pairs):
                    self.right(world, source, target, ("derivation", tuple(pairs)))
                    right += len(pairs)
                else:
                    self.wrong(world, source, target, ("derivation", tuple(pairs)))
                    wrong += 1
        self.assertGreater(min(right, wrong), 50)

    def test_random_paths(self):
        right = wrong = 0
        for maker in [*random_makers(60), *random_makers(30, even=True, methods=2)]:
            world, oracle = maker.world, Oracle(maker.world.declarations)
            for _ in range(10):
                source, target = maker.shape(), maker.shape(1, 1)
                path, result = [], target
                for _ in range(maker.random.randint(0, 4)):
                    uses = oracle.uses(result) or [maker.use()]
                    path.append(maker.random.choice(uses))
                    result = oracle.result(result, path[-1])
                    if result is None:
                        break
                breaks = oracle.result(source, *path) is None and oracle.result(target, *path) is not None
                (self.right if breaks else self.wrong)(world, source, target, ("use", tuple(path)))
                right += breaks
                wrong += not breaks
        self.assertGreater(min(right, wrong), 100)

    def test_large_answers(self):
        world, cat = farm(), read("Cat")
        large = large_shape()
        self.right(world, cat, cat, ("derivation", ((Atom("Cat"), cat),) * 200000))
        self.right(world, cat, read("Dog"), ("use", (FISH,) * 100000 + (CAT,)))
        for pair in ((Atom("Cat"), large), (large.atoms[0], cat)):
            self.wrong(world, cat, cat, ("derivation", ((Atom("Cat"), cat), pair)))


if __name__ == "__main__":
    unittest.main()
