"""What shapes allow: each_use, allows and result (k10, k11), the order of ways (k19), roles written out (k21)."""

import itertools
import unittest

from makers import random_makers
from oracle import Oracle
from samples import boxes, farm, read, way
from shapetypes.declarations import Kind, Method, Role, Way
from shapetypes.errors import InvalidUse, NotAllowed, UnknownName
from shapetypes.fitting import are_alike
from shapetypes.shapes import Atom, Shape
from shapetypes.worlds import World
from values import values_besides


def use(name, *kinds):
    return name, kinds


class Uses(unittest.TestCase):

    def test_each_use(self):
        world = farm()
        expected = {
            "Never": [], "Object": [], "Fish": [], "Cat": [use("eat", "Fish")], "Cat | Fish": [],
            "Dog": [use("eat", "Cat"), use("eat", "Fish")], "Cat | Dog": [use("eat", "Fish")], "Dog | Object": [],
        }
        for text, uses in expected.items():
            self.assertEqual(list(world.each_use(read(text))), uses)
            self.assertEqual(list(world.each_use(shape=read(text))), uses)

    def test_the_order_of_uses(self):
        cat = Kind(
            "Cat", Method("z", way("Cat")), Method("b", way("Cat", "Dog", "Cat"), way("Cat", "Cat | a | Dog", "Dog")),
            Method("Z", way("Cat", "Dog | a"), way("Cat", "Never"), way("Cat", "Cat")), Method("b_", way("Cat", "Cat")),
            Method("b1", way("Cat")),
        )
        uses = [
            use("Z", "Cat"), use("Z", "Dog"), use("Z", "a"), use("b", "Cat", "Dog"), use("b", "Dog", "Cat"),
            use("b", "Dog", "Dog"), use("b", "a", "Dog"), use("b1"), use("b_", "Cat"), use("z"),
        ]
        self.assertEqual(uses, sorted(uses))
        for order in itertools.permutations([cat, Kind("a"), Kind("Dog")]):
            self.assertEqual(list(World(*order).each_use(read("Cat"))), uses)

    def test_lists_of_uses_are_new(self):
        world = farm()
        told = list(world.each_use(read("Dog")))
        told.clear()
        self.assertEqual(len(list(world.each_use(read("Dog")))), 2)

    def test_several_generators_at_once(self):
        world = farm()
        one, other = world.each_use(read("Dog")), world.each_use(read("Dog"))
        self.assertEqual([next(one), next(other), next(one), next(other)],
                         [use("eat", "Cat"), use("eat", "Cat"), use("eat", "Fish"), use("eat", "Fish")])

    def test_numbers_of_arguments(self):
        world = World(Kind("Cat", Method("a", way("Cat")), Method("b", way("Cat", "Cat")),
                           Method("c", way("Cat", "Cat", "Cat"))))
        for name in "abcd":
            for many in range(5):
                allowed = (name, many) in (("a", 0), ("b", 1), ("c", 2))
                self.assertIs(world.allows(read("Cat"), use(name, *["Cat"] * many)), allowed)

    def test_methods_with_other_numbers_of_parameters(self):
        world = World(Kind("Cat", Method("run", way("Cat"))), Kind("Dog", Method("run", way("Cat", "Cat"))))
        self.assertEqual(list(world.each_use(read("Cat | Dog"))), [])
        self.assertIs(world.allows(read("Cat | Dog"), use("run")), False)
        self.assertIs(world.allows(read("Cat | Dog"), use("run", "Cat")), False)

    def test_results_are_those_of_all_atoms(self):
        world = farm()
        self.assertEqual(world.result(read("Cat | Dog"), use("eat", "Fish")), read("Cat | Dog"))
        self.assertEqual(world.result(read("Cat | Dog | Eater"), use("eat", "Fish")).text, "Cat | Dog | Eater")
        with self.assertRaises(NotAllowed):
            world.result(read("Cat | Dog"), use("eat", "Cat"))

    def test_the_first_way_is_chosen(self):
        world = farm()
        self.assertEqual(world.result(read("Dog"), use("eat", "Fish")), read("Dog"))
        self.assertEqual(world.result(read("Dog"), use("eat", "Cat")), read("Object"))

    def test_arguments_take_the_place_of_parameters(self):
        world = boxes()
        cell = read("Cell[Cat | Dog]")
        self.assertEqual(list(world.each_use(cell)), [use("get"), use("put", "Cat"), use("put", "Dog")])
        self.assertEqual(world.result(cell, use("get")), read("Cat | Dog"))
        self.assertEqual(world.result(cell, use("put", "Dog"), use("put", "Cat")), cell)
        self.assertEqual(list(world.each_use(read("Sink[Never]"))), [])
        self.assertEqual(world.result(read("Cell[Never]"), use("get")), Shape())
        self.assertEqual(world.result(read("Source[Object | Source[Cat]]"), use("get")), read("Object | Source[Cat]"))
        pair = read("Pair[Cell[Cat], Source[Dog] | Fish]")
        self.assertEqual(world.result(pair, use("swap")), read("Pair[Source[Dog] | Fish, Cell[Cat]]"))
        self.assertEqual(world.result(pair, use("swap"), use("first")), read("Source[Dog] | Fish"))
        self.assertEqual(world.result(pair, use("swap"), use("swap")), pair)

    def test_all_parameters_are_replaced_at_once(self):
        world = World(
            Kind("Cat"), Kind("Dog"),
            Role("Pair", Method("first", way("T")), Method("turn", way("Pair[U, T] | T")), T="out", U="out"),
        )
        told = world.result(read("Pair[Cat, Pair[Dog, Cat]]"), use("turn"))
        self.assertEqual(told.text, "Cat | Pair[Pair[Dog, Cat], Cat]")

    def test_depths_do_not_grow(self):
        world = boxes()
        shape = read("Source[" * 6 + "Cat" + "]" * 6)
        self.assertEqual(world.result(shape, *[use("get")] * 6), read("Cat"))
        deep = read("Pair[" + "Source[" * 5 + "Cat" + "]" * 5 + ", Never]")
        self.assertEqual(world.result(deep, use("swap"), use("swap")), deep)


    def test_shapes_with_many_atoms(self):
        looked_at = {}
        for maker in random_makers(25, kinds=4, roles=3, even=True, methods=3):
            oracle = Oracle(maker.world.declarations)
            atoms = [maker.atom(2) for _ in range(120)]
            atoms = [atom for atom in atoms if len(oracle.uses(Shape(atom))) > 2]
            shape = Shape(*atoms)
            for size in (len(shape) // 2, len(shape)):
                part = Shape(*shape.atoms[:size])
                uses = oracle.uses(part)
                self.assertEqual(list(maker.world.each_use(part)), uses)
                for told in uses:
                    self.assertEqual(maker.world.result(part, told), oracle.result(part, told))
                looked_at[len(part)] = looked_at.get(len(part), 0) + len(uses)
        self.assertGreater(sum(many for size, many in looked_at.items() if size > 20), 20, looked_at)


class Paths(unittest.TestCase):

    def test_the_empty_path(self):
        world = farm()
        for text in ("Never", "Object", "Cat", "Cat | Eater"):
            shape = read(text)
            self.assertIs(world.allows(shape), True)
            self.assertIs(world.result(shape), shape)

    def test_by_name(self):
        world = farm()
        self.assertIs(world.allows(shape=read("Cat")), True)
        self.assertEqual(world.result(shape=read("Cat")), read("Cat"))

    def test_never_allows_every_path(self):
        world = farm()
        for path in ((use("eat", "Fish"),), (use("any"), use("a", "Cat", "Cat", "Cat")), [use("x", "Dog")] * 20):
            self.assertIs(world.allows(Shape(), *path), True)
            self.assertEqual(world.result(Shape(), *path), Shape())

    def test_paths_that_come_to_never(self):
        world = World(Kind("Cat", Method("run", way("Never"))), Kind("Dog"))
        path = use("run"), use("any", "Cat", "Dog", "Cat"), use("run", "Dog")
        self.assertIs(world.allows(read("Cat"), *path), True)
        self.assertEqual(world.result(read("Cat"), *path), Shape())

    def test_the_first_use_that_is_not_allowed(self):
        world = World(Kind("Cat", Method("run", way("Dog"))), Kind("Dog", Method("run", way("Cat | Fish"))), Kind("Fish"))
        run = use("run")
        for text, spot in (("Cat", 2), ("Dog", 1), ("Fish", 0), ("Cat | Dog", 1), ("Cat | Fish", 0), ("Object", 0)):
            for more in range(3):
                path = [run] * (spot + 1 + more)
                self.assertIs(world.allows(read(text), *path), False)
                self.assertIs(world.allows(read(text), *path[:spot]), True)
                with self.assertRaises(NotAllowed) as caught:
                    world.result(read(text), *path)
                self.assertEqual((type(caught.exception.spot), caught.exception.spot), (int, spot))

    def test_values_that_are_no_uses_come_before_uses_that_are_not_allowed(self):
        world = farm()
        for value in values_besides("eat", ("eat",), ("eat", ["Fish"]), use("eat", "Eater"), use("eat", "Bird")):
            for call in (world.allows, world.result):
                for shape in (read("Cat"), read("Object"), Shape()):
                    with self.assertRaises(InvalidUse) as caught:
                        call(shape, use("any"), use("eat", "Fish"), value, value)
                    self.assertEqual(caught.exception.spot, 2)

    def test_shapes_come_before_uses(self):
        for call in (farm().allows, farm().result):
            with self.assertRaises(UnknownName):
                call(read("Bird"), None, use("any"))

    def test_random_paths(self):
        lengths = {}
        for maker in [*random_makers(40), *random_makers(20, even=True, methods=5, ways=4)]:
            world, oracle = maker.world, Oracle(maker.world.declarations)
            for _ in range(5):
                shape = maker.shape()
                uses = oracle.uses(shape)
                self.assertEqual(list(world.each_use(shape)), uses)
                path, result = [], shape
                while len(path) < 5:
                    # The use is an allowed one mostly, so that paths become longer.
                    path.append(maker.use() if not uses or maker.random.random() < 0.1 else maker.random.choice(uses))
                    result = oracle.result(result, path[-1])
                    self.assertIs(world.allows(shape, *path), result is not None)
                    if result is None:
                        with self.assertRaises(NotAllowed) as caught:
                            world.result(shape, *path, maker.use())
                        self.assertEqual(caught.exception.spot, len(path) - 1)
                        break
                    self.assertEqual(world.result(shape, *path), result)
                    self.assertEqual(world.result(shape, *path).text, result.text)
                    uses = oracle.uses(result)
                lengths[len(path)] = lengths.get(len(path), 0) + 1
        self.assertGreater(lengths[5], 20)


class Order(unittest.TestCase):
    """The first way that takes the arguments is chosen."""

    def test_all_orders(self):
        names = ("Cat", "Dog", "Fish")
        given = [("Cat", "Cat | Dog"), ("Dog", "Dog | Fish"), ("Fish", "Cat"), ("Object", "Cat | Dog | Fish")]
        for order in itertools.permutations(given):
            kinds = [Kind(name) for name in names]
            world = World(*kinds, Role("Any", Method("eat", *[way(*texts) for texts in order])))
            for name in names:
                expected = [result for result, parameter in order if name in parameter.split(" | ")][0]
                self.assertEqual(world.result(read("Any"), use("eat", name)).text, expected)

    def test_two_parameters(self):
        world = World(
            Kind("Cat"), Kind("Dog"),
            Role("Any", Method("mix", way("Cat", "Cat", "Dog"), way("Dog", "Dog", "Cat | Dog"),
                               way("Cat | Dog", "Cat | Dog", "Cat | Dog"), way("Never", "Cat", "Cat"))),
        )
        expected = {("Cat", "Dog"): "Cat", ("Dog", "Cat"): "Dog", ("Dog", "Dog"): "Dog", ("Cat", "Cat"): "Cat | Dog"}
        for kinds, text in expected.items():
            self.assertEqual(world.result(read("Any"), ("mix", kinds)).text, text)

    def test_parameters_of_roles(self):
        world = World(
            Kind("Cat"), Kind("Dog"),
            Role("Box", Method("put", way("T", "T"), way("Object", "Cat | Dog")), T="both"),
        )
        for text, told in (("Cat", {"Cat": "Cat", "Dog": "Object"}), ("Never", {"Cat": "Object", "Dog": "Object"}),
                           ("Cat | Dog", {"Cat": "Cat | Dog", "Dog": "Cat | Dog"})):
            for kind, expected in told.items():
                self.assertEqual(world.result(read(f"Box[{text}]"), use("put", kind)).text, expected)


class WrittenOut(unittest.TestCase):
    """A role with arguments allows what a role allows in which these stand in place of its parameters."""

    def written_out(self, oracle, atom):
        """A role without parameters that stands for an atom."""
        made = []
        for name, ways in oracle.methods(atom).items():
            made.append(Method(name, *[Way(result, *[Shape.of_names(*names) for names in parameters])
                                       for parameters, result in ways]))
        return Role("Written", *made)

    def test_random_roles(self):
        looked_at = 0
        for maker in random_makers(60, roles=3):
            for name in maker.roles:
                if not maker.roles[name]:
                    continue
                atom = Atom(name, *[maker.argument(mark, 1) for mark in maker.roles[name].values()])
                role = self.written_out(Oracle(maker.world.declarations), atom)
                world = World(*maker.world.declarations, role)
                one, other = Shape(atom), read("Written")
                self.assertEqual(list(world.each_use(one)), list(world.each_use(other)))
                for told in world.each_use(one):
                    self.assertEqual(world.result(one, told), world.result(other, told))
                self.assertTrue(are_alike(world, one, other))
                looked_at += 1
        self.assertGreater(looked_at, 60)


if __name__ == "__main__":
    unittest.main()
