"""Calls (k44, k45), dead ways (k46), ways that overlap (k47), and their first errors (k48)."""

import itertools
import unittest

from makers import random_makers
from oracle import Oracle
from samples import boxes, cycles, farm, large_kinds, numbered, read, way
from shapetypes.calls import called, dead_ways, overlaps
from shapetypes.declarations import Kind, Method, Role, Way
from shapetypes.errors import InvalidKinds, NotTaken, TooLarge, UnknownName
from shapetypes.shapes import Atom, Shape
from shapetypes.worlds import World
from values import shared_tuple, values_besides


class Called(unittest.TestCase):

    def not_taken(self, use, world, receivers, name, *arguments):
        with self.assertRaises(NotTaken) as caught:
            called(world, receivers, name, *arguments)
        told = caught.exception.use
        self.assertEqual(told, use)
        self.assertIs(told[1][0], name)
        self.assertEqual([type(part) for part in (told, told[1], told[1][1])], [tuple] * 3)

    def test_the_examples(self):
        world = farm()
        self.assertEqual(called(world, ("Cat", "Dog"), "eat", ("Fish",)), ("Cat", "Dog"))
        self.assertEqual(called(world, ("Dog",), "eat", ("Cat",)), ("Cat", "Dog", "Fish"))
        self.assertEqual(called(world, ("Dog",), "eat", ("Cat", "Fish")), ("Cat", "Dog", "Fish"))
        self.assertEqual(called(world, ("Dog",), "eat", ("Fish",)), ("Dog",))
        self.assertEqual(called(world, ("Cat",), "eat", ("Fish",)), ("Cat", "Dog"))

    def test_by_name(self):
        world = World(Kind("Cat", Method("run", way("Cat"))))
        self.assertEqual(called(world=world, receivers=("Cat",), name="run"), ("Cat",))

    def test_members_are_those_of_each_result(self):
        # The shape of both results would have one more member.
        world = World(
            Kind("Cat", Method("a", way("Cat")), Method("run", way("Cat"))),
            Kind("Dog", Method("b", way("Dog")), Method("run", way("Dog"))), Kind("Fish", Method("run", way("Fish"))),
            Kind("Any", Method("run", way("Never"))),
        )
        self.assertEqual(called(world, ("Cat", "Dog"), "run"), ("Cat", "Dog"))
        self.assertEqual(called(world, ("Dog", "Any", "Cat"), "run"), ("Cat", "Dog"))
        self.assertEqual(called(world, ("Fish",), "run"), ("Cat", "Dog", "Fish", "Any"))
        self.assertEqual(called(world, ("Any",), "run"), ())

    def test_the_order_of_kinds(self):
        for order in itertools.permutations(farm().declarations):
            world = World(*order)
            for receivers in (("Cat", "Dog"), ("Dog", "Cat")):
                expected = tuple(kind for kind in world.kinds if kind != "Fish")
                self.assertEqual(called(world, receivers, "eat", ("Fish",)), expected)

    def test_empty_tuples(self):
        world = farm()
        for name in values_besides("eat", "nothing", Shape()):
            self.assertEqual(called(world, (), name), ())
            self.assertEqual(called(world, (), name, ("Cat",)), ())
            self.assertEqual(called(world, ("Cat",), name, ()), ())
            self.assertEqual(called(world, ("Fish",), name, ("Cat",), (), ("Dog",), ("Dog",)), ())

    def test_kinds_come_before_empty_tuples(self):
        world = farm()
        self.refused("receivers", None, world, None, "eat", ())
        self.refused(1, 0, world, (), "eat", (), ("Bird",))
        self.refused(0, 1, world, (), "eat", ("Cat", "Cat"), ())

    def refused(self, part, spot, world, *given):
        with self.assertRaises(InvalidKinds) as caught:
            called(world, *given)
        error = caught.exception
        self.assertEqual((type(error.part), error.part, type(error.spot), error.spot),
                         (type(part), part, type(spot), spot))

    def test_values_that_are_no_kinds(self):
        world = farm()
        for value in values_besides("Eater", "Object", "Bird", Shape.of_names("Cat"), Atom("Cat")):
            for spot, kinds in enumerate([(value,), ("Dog", value), ("Dog", "Cat", value, "Dog")]):
                self.refused("receivers", spot, world, kinds, "eat", ("Fish",))
                self.refused("receivers", spot, world, kinds, None, None)
                self.refused(0, spot, world, ("Cat",), "eat", kinds)
                self.refused(0, spot, world, ("Cat",), None, kinds, (value,))
                self.refused(1, spot, world, ("Cat",), "eat", ("Fish",), kinds)
                self.refused(3, spot, world, ("Cat",), "eat", (), ("Fish",), (), kinds, value)

    def test_values_that_are_no_tuples(self):
        world = farm()
        for value in values_besides("Cat", Shape.of_names("Cat"), Atom("Cat"), ["Cat", "Dog"], {"Cat": "Dog"}):
            if not isinstance(value, tuple):
                self.refused("receivers", None, world, value, "eat", ("Fish",))
                self.refused("receivers", None, world, value, "eat", value)
                self.refused(0, None, world, ("Cat",), "eat", value)
                self.refused(2, None, world, ("Cat",), "eat", (), ("Cat",), value, value)

    def test_kinds_that_occur_earlier(self):
        world = farm()
        self.refused("receivers", 1, world, ("Cat", "Cat"), "eat", ("Fish", "Fish"))
        self.refused(0, 2, world, ("Cat",), "eat", ("Fish", "Dog", "Fish"))
        self.refused(1, 2, world, ("Cat",), "eat", ("Fish",), ("Fish", "Dog", "Fish", "Bird"))
        self.refused("receivers", 0, world, shared_tuple(), "eat")

    def test_uses_that_are_not_taken(self):
        world = farm()
        self.not_taken(("Cat", ("eat", ("Cat",))), world, ("Dog", "Cat"), "eat", ("Fish", "Cat"))
        self.not_taken(("Cat", ("eat", ("Cat",))), world, ("Cat", "Dog"), "eat", ("Fish", "Cat", "Dog"))
        self.not_taken(("Dog", ("eat", ("Dog",))), world, ("Dog", "Cat"), "eat", ("Fish", "Cat", "Dog"))
        self.not_taken(("Fish", ("eat", ("Fish",))), world, ("Cat", "Fish"), "eat", ("Fish",))
        self.not_taken(("Cat", ("eat", ())), world, ("Cat",), "eat")
        self.not_taken(("Cat", ("eat", ("Fish", "Dog"))), world, ("Cat",), "eat", ("Fish",), ("Dog", "Fish"))
        self.not_taken(("Cat", ("run", ("Fish",))), world, ("Cat",), "run", ("Fish",))

    def test_the_last_argument_runs_first(self):
        every = "Cat | Dog | Fish"
        for left_out in itertools.product(("Cat", "Dog", "Fish"), repeat=2):
            others = [" | ".join(name for name in ("Cat", "Dog", "Fish") if name != kind) for kind in left_out]
            ways = way("Cat", others[0], every), way("Cat", every, others[1])
            world = World(Kind("Cat", Method("mix", *ways)), Kind("Dog", Method("mix", way("Cat", every, "Cat | Dog"))),
                          Kind("Fish"))
            for given in itertools.permutations(("Cat", "Dog", "Fish")):
                self.not_taken(("Cat", ("mix", left_out)), world, ("Cat", "Dog"), "mix", given, given)
                expected = ("Dog", ("mix", (given[0], "Fish")))
                self.not_taken(expected, world, ("Dog", "Cat"), "mix", given, given)

    def test_more_arguments_than_any_way_takes(self):
        world, kinds = farm(), ("Fish", "Cat", "Dog")
        self.not_taken(("Dog", ("eat", ("Fish",) * 3)), world, ("Dog", "Cat"), "eat", kinds, kinds, kinds)
        self.not_taken(("Dog", ("eat", ("Fish",) * 300)), world, ("Dog", "Cat"), "eat", *[kinds] * 300)

    def test_names_of_other_kinds(self):
        world, kinds = farm(), ("Fish", "Cat", "Dog")
        for name in values_besides("Eater", "eat ", "Eat", "Object", Shape.of_names("eat"), Atom("eat"), ("eat",)):
            for many in range(4):
                with self.assertRaises(NotTaken) as caught:
                    called(world, ("Dog", "Cat"), name, *[kinds] * many)
                receiver, (told, given) = caught.exception.use
                self.assertEqual((receiver, given), ("Dog", ("Fish",) * many))
                self.assertIs(told, name)

    def test_uses_come_before_limits(self):
        large = Way(Shape(*numbered("Box", 2001)))
        world = World(*cycles().declarations, Kind("J", Method("next", large)), Kind("K", Method("get", way("A | D"))),
                      Kind("L", Method("get", way("A | Object"))))
        self.assertEqual(called(world, ("L",), "get"), tuple("ABCDEFGJKL"))
        for _ in range(2):
            with self.assertRaises(TooLarge) as caught:
                called(world, ("K",), "get")
            self.assertEqual(caught.exception.limit, 2000)
            with self.assertRaises(TooLarge):
                called(world, ("L", "K"), "get")
        self.not_taken(("J", ("get", ())), world, ("K", "J"), "get")
        self.assertEqual(called(world, ("K",), "get", ()), ())

    def test_random_calls(self):
        told = {"kinds": 0, "nothing": 0, "not taken": 0}
        for maker in [*random_makers(60, kinds=4), *random_makers(40, kinds=4, roles=1, even=True, methods=2)]:
            oracle = Oracle(maker.world.declarations)
            members = {}
            for _ in range(8):
                receivers = tuple(maker.random.sample(maker.kinds, maker.random.randint(1, 2)))
                name, kinds = maker.use()
                arguments = [tuple(maker.random.sample(maker.kinds, maker.random.randint(1, 3))) for _ in kinds]
                results = {}
                for receiver, given in itertools.product(receivers, itertools.product(*arguments)):
                    results[receiver, (name, given)] = oracle.result_of_atom(Atom(receiver), (name, given))
                wrong = [use for use, result in results.items() if result is None]
                if wrong:
                    self.not_taken(wrong[0], maker.world, receivers, name, *arguments)
                    told["not taken"] += 1
                    continue
                found = set()
                for result in results.values():
                    if result.text not in members:
                        members[result.text] = oracle.members(result)
                    found |= set(members[result.text])
                expected = tuple(kind for kind in maker.world.kinds if kind in found)
                self.assertEqual(called(maker.world, receivers, name, *arguments), expected)
                told["kinds" if expected else "nothing"] += 1
        self.assertGreater(min(told.values()), 5, told)

    def test_the_largest_world(self):
        world = World(*large_kinds(12))
        self.assertEqual(called(world, world.kinds, "m4", world.kinds, world.kinds), world.kinds)


class DeadWays(unittest.TestCase):

    def test_dead_ways(self):
        world = World(
            Kind("Cat", Method("a", way("Cat", "Cat"), way("Cat", "Dog"), way("Cat", "Cat | Dog"), way("Cat", "Fish")),
                 Method("b", way("Cat"), way("Dog"), way("Cat")), Method("c", way("Cat", "Never")),
                 Method("d", way("Cat", "Cat", "Never"), way("Cat", "Cat", "Cat | Dog"), way("Cat", "Cat", "Dog"))),
            Kind("Dog"), Kind("Fish", Method("a", way("Cat", "Cat"))),
        )
        told = dead_ways(world, Atom("Cat"))
        self.assertEqual(told, (("a", 2), ("b", 1), ("b", 2), ("c", 0), ("d", 0), ("d", 2)))
        self.assertEqual([type(part) for part in (told, *told)], [tuple] * 7)
        self.assertEqual(dead_ways(world=world, atom=Atom("Dog")), ())
        for name in ("Fish", "Object"):
            self.assertEqual(dead_ways(world, Atom(name)), ())

    def test_the_order_of_methods(self):
        world = World(Kind("Cat", *[Method(name, way("Cat"), way("Cat")) for name in ("z", "b", "a", "Y")]))
        self.assertEqual(dead_ways(world, Atom("Cat")), (("z", 1), ("b", 1), ("a", 1), ("Y", 1)))

    def test_pairs_of_kinds(self):
        # The last way takes four pairs, and each of them is taken by one of the two ways before it.
        every, one = way("Cat", "Cat | Dog", "Cat | Dog"), way("Cat", "Cat", "Cat | Dog")
        for other, dead in ((way("Cat", "Dog", "Dog"), ()), (way("Cat", "Dog", "Cat | Dog"), (("mix", 2),))):
            world = World(Kind("Cat", Method("mix", one, other, every)), Kind("Dog"))
            self.assertEqual(dead_ways(world, Atom("Cat")), dead)

    def test_arguments_of_roles(self):
        world = World(
            Kind("Cat"), Kind("Dog"),
            Role("Box", Method("put", way("Cat", "T"), way("Cat", "Dog | T"), way("Cat", "Cat")), T="both"),
        )
        for text, numbers in (("Never", (0,)), ("Cat", (2,)), ("Dog", (1,)), ("Cat | Dog", (1, 2))):
            expected = tuple(("put", number) for number in numbers)
            self.assertEqual(dead_ways(world, Atom("Box", read(text))), expected)

    def test_kinds_that_are_added(self):
        given = Kind("Cat", Method("eat", way("Cat", "Cat"), way("Cat", "Cat")))
        self.assertEqual(dead_ways(World(given, Kind("Dog")), Atom("Cat")), (("eat", 1),))

    def test_random_atoms(self):
        looked_at = 0
        for maker in random_makers(80, ways=4, methods=5):
            oracle = Oracle(maker.world.declarations)
            for _ in range(5):
                atom = maker.atom(1)
                expected = []
                for name, ways in oracle.methods(atom).items():
                    for number in range(len(ways)):
                        taken = [set(itertools.product(*parameters)) for parameters, _ in ways[:number + 1]]
                        if taken[-1] <= set().union(*taken[:-1]):
                            expected.append((name, number))
                self.assertEqual(dead_ways(maker.world, atom), tuple(expected))
                looked_at += len(expected)
        self.assertGreater(looked_at, 100)


class Overlaps(unittest.TestCase):

    def test_the_example(self):
        world = farm()
        self.assertEqual(list(overlaps(world, Atom("Dog"), "eat")), [(0, 1, ("Fish",))])
        self.assertEqual(list(overlaps(world=world, atom=Atom("Cat"), name="eat")), [])

    def test_the_order(self):
        every = way("Cat", "c | Cat | Dog")
        kinds = [Kind("c"), Kind("Dog"), Kind("Cat", Method("eat", way("Cat", "c | Cat"), every, way("Cat", "Dog"), every))]
        expected = [
            (0, 1, ("Cat",)), (0, 1, ("c",)), (0, 3, ("Cat",)), (0, 3, ("c",)), (1, 2, ("Dog",)), (1, 3, ("Dog",)),
        ]
        self.assertEqual(expected, sorted(expected))
        for order in itertools.permutations(kinds):
            self.assertEqual(list(overlaps(World(*order), Atom("Cat"), "eat")), expected)

    def test_no_way_before_the_first_one(self):
        same = [way("Cat", "Cat")] * 4
        world = World(Kind("Cat", Method("eat", *same), Method("run", way("Cat"), way("Cat"), way("Cat"))))
        self.assertEqual(list(overlaps(world, Atom("Cat"), "eat")), [(0, number, ("Cat",)) for number in (1, 2, 3)])
        self.assertEqual(list(overlaps(world, Atom("Cat"), "run")), [(0, 1, ()), (0, 2, ())])

    def test_pairs_of_kinds(self):
        world = World(
            Kind("Cat", Method("mix", way("Cat", "Cat | Dog", "Dog"), way("Cat", "Dog", "Cat | Dog"),
                               way("Cat", "Dog", "Cat"))), Kind("Dog"),
        )
        self.assertEqual(list(overlaps(world, Atom("Cat"), "mix")), [(0, 1, ("Dog", "Dog")), (1, 2, ("Dog", "Cat"))])

    def test_arguments_of_roles(self):
        world = World(Kind("Cat"), Kind("Dog"), Role("Box", Method("put", way("Cat", "T"), way("Cat", "Dog")), T="both"))
        for text, kinds in (("Never", []), ("Cat", []), ("Dog", ["Dog"]), ("Cat | Dog", ["Dog"])):
            expected = [(0, 1, (kind,)) for kind in kinds]
            self.assertEqual(list(overlaps(world, Atom("Box", read(text)), "put")), expected)

    def test_names_of_other_kinds(self):
        world = boxes()
        for value in values_besides("put", "Cell", "T", "Object", Shape.of_names("get"), Atom("get"), ("get",)):
            for atom in (Atom("Source", read("Cat")), Atom("Fish"), Atom("Object")):
                with self.assertRaises(UnknownName) as caught:
                    next(iter(overlaps(world, atom, value)))
                self.assertIs(caught.exception.word, value)
        self.assertEqual(list(overlaps(world, Atom("Source", read("Cat")), "get")), [])

    def test_names_of_methods_of_other_declarations(self):
        with self.assertRaises(UnknownName):
            list(overlaps(farm(), Atom("Fish"), "eat"))

    def test_random_atoms(self):
        looked_at = 0
        for maker in random_makers(80, ways=4, methods=5):
            oracle = Oracle(maker.world.declarations)
            for _ in range(5):
                atom = maker.atom(1)
                for name, ways in oracle.methods(atom).items():
                    taken = [set(itertools.product(*parameters)) for parameters, _ in ways]
                    expected = []
                    for one, other in itertools.combinations(range(len(ways)), 2):
                        kinds = (taken[one] & taken[other]) - set().union(*taken[:one])
                        expected.extend((one, other, given) for given in sorted(kinds))
                    self.assertEqual(list(overlaps(maker.world, atom, name)), expected)
                    looked_at += len(expected)
        self.assertGreater(looked_at, 300)


if __name__ == "__main__":
    unittest.main()
