"""Worlds: what they refuse, and what they tell of their declarations (promises k05 to k08)."""

import unittest

from makers import random_makers
from oracle import Oracle
from samples import boxes, farm, read, way
from shapetypes.declarations import Declaration, Kind, Method, Role, Way
from shapetypes.errors import InvalidWorld, UnknownName
from shapetypes.shapes import Atom, Shape
from shapetypes.worlds import World
from values import large_shape, values_besides

CAT, DOG = Kind("Cat"), Kind("Dog")


def kinds(many):
    return [Kind(f"K{number}") for number in range(many)]


def roles(many):
    return [Role(f"R{number}") for number in range(many)]


def no_declarations():
    """Values that are no kinds and no roles."""
    given = values_besides(Shape(), Atom("Cat"), Method("eat", way("Cat")), Declaration("Cat", ()), World(), "Cat")
    return [value for value in given if not isinstance(value, (Kind, Role))]


class Refused(unittest.TestCase):

    def breaks(self, rule, item, *declarations):
        for create in (World, lambda *given: World.of(given), lambda *given: World.of(declarations=given)):
            with self.assertRaises(InvalidWorld) as caught:
                create(*declarations)
            error = caught.exception
            self.assertEqual((error.rule, type(error.item), error.item), (rule, type(item), item))


class Names(Refused):

    def test_properties(self):
        given = (DOG, Role("Box", T="in"), CAT, Role("Any"))
        for world in (World(*given), World.of(given), World.of(declarations=given)):
            self.assertIs(type(world), World)
            self.assertEqual(world.declarations, given)
            self.assertEqual((world.kinds, world.roles), (("Dog", "Cat"), ("Box", "Any")))
            for told in (world.declarations, world.kinds, world.roles):
                self.assertIs(type(told), tuple)

    def test_the_empty_world(self):
        world = World()
        self.assertEqual((world.declarations, world.kinds, world.roles), ((), (), ()))
        self.assertTrue("Object" in world)
        self.assertEqual(World.of(()).declarations, ())

    def test_properties_cannot_be_set(self):
        world = farm()
        for name in ("declarations", "kinds", "roles"):
            with self.assertRaises(AttributeError):
                setattr(world, name, ())

    def test_in_and_brackets(self):
        world = farm()
        for declaration in world.declarations:
            self.assertIs(declaration.name in world, True)
            self.assertIs(world[declaration.name], declaration)
        self.assertIs("Object" in world, True)
        for value in values_besides("Bird", "eat", "cat", "Cat ", Shape.of_names("Cat"), Atom("Cat"), world):
            self.assertIs(value in world, False)
            self.assertIs(value not in world, True)
        for value in values_besides("Object", "Bird", "eat", "cat", "Cat ", Shape(), Atom("Cat"), world):
            with self.assertRaises(UnknownName) as caught:
                world[value]
            self.assertIs(caught.exception.word, value)

    def test_parameters_are_no_declarations(self):
        self.assertFalse("T" in boxes())
        with self.assertRaises(UnknownName):
            boxes()["T"]

    def test_worlds_are_not_iterated_over(self):
        with self.assertRaises(TypeError):
            list(farm())
        with self.assertRaises(TypeError):
            farm() | farm()
        with self.assertRaises(TypeError):
            farm() < farm()

    def test_values_that_are_no_declarations(self):
        for value in no_declarations():
            self.breaks("declaration", 0, value)
            self.breaks("declaration", 0, value, CAT, CAT, value)
            self.breaks("declaration", 2, CAT, Role("Box"), value, value)
            self.breaks("declaration", 13, *kinds(13), value)

    def test_lists_and_tuples_are_no_declarations(self):
        self.breaks("declaration", 0, [CAT, DOG])
        self.breaks("declaration", 0, (CAT,))
        self.breaks("declaration", 1, CAT, ())

    def test_names_that_occur_earlier(self):
        self.breaks("name", "Cat", CAT, Kind("Cat"))
        self.breaks("name", "Cat", CAT, CAT)
        self.breaks("name", "Cat", CAT, Role("Cat"))
        self.breaks("name", "Dog", Role("Cat"), DOG, Role("Dog"), CAT)
        self.breaks("name", "Cat", CAT, Role("Cat", T="in"), Role("T"))

    def test_declarations_and_names_whichever_comes_first(self):
        self.breaks("name", "Cat", CAT, CAT, None)
        self.breaks("declaration", 1, CAT, None, CAT)
        self.breaks("declaration", 0, None, CAT, CAT)

    def test_parameters_with_the_name_of_a_declaration(self):
        self.breaks("name", "Cat", CAT, Role("Box", Cat="in"))
        self.breaks("name", "Cat", Role("Box", Cat="in"), CAT)
        self.breaks("name", "Box", Role("Box", T="in", Box="out"))
        self.breaks("name", "Box", Role("Cell", T="in", Box="out"), Role("Box", Cell="none"))
        self.breaks("name", "Cell", Role("Box", Cell="none"), Role("Cell", T="in", Box="out"))
        self.breaks("name", "Dog", CAT, DOG, Role("Box", Dog="in", Cat="in"))

    def test_declarations_come_before_parameters(self):
        self.breaks("declaration", 2, CAT, Role("Box", Cat="in"), None)
        self.breaks("name", "Dog", CAT, Role("Box", Cat="in"), DOG, DOG)

    def test_parameters_can_have_the_same_names(self):
        world = World(Role("Box", T="in", U="out"), Role("Cell", U="in", T="out"), Role("List", T="none"))
        self.assertEqual(world.roles, ("Box", "Cell", "List"))

    def test_sizes(self):
        self.assertEqual((World.MAX_KINDS, World.MAX_ROLES), (12, 8))
        self.assertEqual(len(World(*kinds(12), *roles(8)).declarations), 20)
        self.breaks("size", None, *kinds(13))
        self.breaks("size", None, *roles(9))
        self.breaks("size", None, *kinds(12), *roles(9))
        self.breaks("size", None, *kinds(13), *roles(8))
        self.breaks("size", None, *kinds(40), *roles(40))

    def test_sizes_stand_between_names_and_places(self):
        wrong = Kind("Cat", Method("eat", way("Bird", "Bird")))
        self.breaks("size", None, wrong, *kinds(12))
        self.breaks("name", "K12", *kinds(13), Kind("K12"))
        self.breaks("name", "K3", *kinds(13), Role("Box", K3="in"))
        self.breaks("parameter", ("Cat", "eat", 0, 0), wrong, *kinds(11), *roles(8))


class Places(Refused):

    def test_parameters_of_kinds(self):
        for text in ("Bird", "Object", "Box", "T", "Cat | Bird", "Cat | Box", "Cat | Object", "Cat | T"):
            kind = Kind("Dog", Method("run", way("Cat")), Method("eat", way("Cat", "Cat"), way("Cat", text)))
            self.breaks("parameter", ("Dog", "eat", 1, 0), CAT, kind, Role("Box", T="both"))
            kind = Kind("Dog", Method("eat", way("Cat", "Never", text)))
            self.breaks("parameter", ("Dog", "eat", 0, 1), CAT, kind, Role("Box", T="both"))
        for text in ("Never", "Cat", "Dog", "Cat | Dog"):
            World(CAT, Kind("Dog", Method("eat", way("Cat", text), way("Cat", text))))

    def test_parameters_of_roles(self):
        for text in ("Bird", "Object", "Box", "List", "U", "Cat | U", "T | Object"):
            role = Role("Box", Method("eat", way("Cat", "Cat", text)), T="both")
            self.breaks("parameter", ("Box", "eat", 0, 1), CAT, role, Role("List", U="both"))
        for text in ("Never", "Cat", "T", "Cat | T"):
            World(CAT, Role("Box", Method("eat", way("Cat", text)), T="both"))

    def test_results_of_kinds(self):
        for text in (
            "Bird", "T", "Box", "Cat[Cat]", "Object[Cat]", "Box[Cat, Cat]", "Box[Bird]", "Box[T]", "Box[Object]",
            "Box[Box[Cat]]", "Cell[Box[Object]]", "Cell[Cell[Bird]]", "Cat | Bird", "Cell", "Box[Cat[Cat]]", "Bird[Cat]",
        ):
            kind = Kind("Dog", Method("run", way("Cat")), Method("eat", way("Cat", "Cat"), way(text, "Cat")))
            self.breaks("result", ("Dog", "eat", 1), CAT, kind, Role("Box", T="both"), Role("Cell", T="out"))
        for text in ("Never", "Object", "Cat", "Box[Never]", "Box[Cat | Dog]", "Cell[Box[Cat]]", "Cell[Object | Cat]"):
            World(CAT, Kind("Dog", Method("eat", way(text))), Role("Box", T="in"), Role("Cell", T="none"))

    def test_results_with_very_many_names(self):
        """Results of up to 40 names, of which one is not declared or none."""
        for many in (20, 21, 22, 29, 30, 31, 40):
            names = [f"K{number}" for number in range(many)]
            for text in ("Cell[" + " | ".join(names) + "]", " | ".join(names), " | ".join(f"Cell[{name}]" for name in names)):
                self.breaks("result", ("Dog", "eat", 0), Kind("Dog", Method("eat", way(text))), Role("Cell", T="out"), *kinds(11))
        names = [f"K{number}" for number in range(11)] + [f"R{number}" for number in range(6)] + ["Dog", "Object"]
        for text in (" | ".join(names), "Cell[" + " | ".join(names) + "]", " | ".join(f"Cell[Jar[{name}, Dog]]" for name in names)):
            for part in ("Dog", "Cell[Jar[Cell[Cell[K1]], Never]]", "Jar[Object, K1 | K2]"):
                given = Kind("Dog", Method("eat", way(text + " | " + part)))
                World(given, *kinds(11), *roles(6), Role("Cell", T="out"), Role("Jar", T="none", U="in"))
            for part in ("Doge", "Cell[Jar[Cell[Cell[K11]], Never]]", "Jar[Dog, K1 | R2]", "Jar[Dog, Cell[Dog]]", "Cell", "Jar[Dog]"):
                given = Kind("Dog", Method("eat", way(text + " | " + part)))
                self.breaks("result", ("Dog", "eat", 0), given, *kinds(11), *roles(6), Role("Cell", T="out"), Role("Jar", T="none", U="in"))

    def test_results_of_roles(self):
        good = [
            "Never", "T", "U", "T | U", "T | Cat", "Box[T, U]", "Box[U, T]", "Box[T, T] | T", "Cell[T]", "Cell[U]",
            "Cell[Box[Cat, Dog]]", "Cell[Cell[Cell[Object]]]", "Object | T", "Cell[Never]", "Cell[Cat | Dog]",
            "Box[Cat, U] | Cell[T] | Cell[U]",
        ]
        wrong = [
            "V", "T[Cat]", "Cell[T | Cat]", "Cell[T | U]", "Cell[Cell[T]]", "Cell[Box[T, U]]", "Cell[T[Cat]]", "Cell[V]",
            "Cat[T]", "Object[T]", "Cell[T, T]", "Box[T]", "Box", "Box[Object, T]", "Box[T, Cell[Cat]]", "Bird",
            "Bird[T]", "T | Bird", "Cell[Bird]", "Box[T, Bird]", "Cell[Object | T]", "Box[T, Cat[Dog]]", "Box[Cat[T], U]",
            "T | Cell[" + " | ".join(f"K{number}" for number in range(40)) + "]",
        ]
        for text in [*good, *wrong]:
            role = Role("Box", Method("run", way("T")), Method("get", way("T", "T"), way(text, "U")), T="both", U="both")
            given = (CAT, role, DOG, Role("Cell", V="out"))
            if text in good:
                self.assertEqual(World(*given).roles, ("Box", "Cell"))
            else:
                self.breaks("result", ("Box", "get", 1), *given)

    def test_parameters_can_be_arguments_of_each_mark(self):
        for mark in ("none", "out", "in", "both"):
            role = Role("Box", Method("get", way("Cell[T]")), T="both")
            self.assertEqual(len(World(role, Role("Cell", T=mark)).roles), 2)

    def test_the_first_place(self):
        first = Kind("Cat", Method("run", way("Bird", "Cat", "Bird"), way("Bird", "Bird", "Cat")))
        self.breaks("parameter", ("Cat", "run", 0, 1), first, Kind("Dog", Method("eat", way("Bird", "Bird"))))
        first = Kind("Cat", Method("run", way("Bird", "Cat"), way("Cat", "Bird")))
        self.breaks("result", ("Cat", "run", 0), first)
        first = Kind("Cat", Method("run", way("Cat", "Cat"), way("Cat", "Bird")), Method("eat", way("Bird")))
        self.breaks("parameter", ("Cat", "run", 1, 0), first)
        first = Role("Box", Method("run", way("U")), Method("eat", way("Cat", "U")), T="none")
        self.breaks("result", ("Box", "run", 0), CAT, first)
        self.breaks("parameter", ("Dog", "eat", 0, 0), Kind("Dog", Method("eat", way("Dog", "U"))), first)
        self.breaks("result", ("Box", "run", 0), first, Kind("Dog", Method("eat", way("Dog", "U"))))

    def test_places_come_before_marks(self):
        wrong = Role("Box", Method("get", way("T")), T="in")
        self.breaks("mark", ("Box", "get", 0, "result"), wrong, Kind("Cat", Method("eat", way("Cat"))))
        self.breaks("result", ("Cat", "eat", 0), wrong, Kind("Cat", Method("eat", way("Bird"))))
        self.breaks("parameter", ("Cat", "eat", 0, 0), wrong, Kind("Cat", Method("eat", way("Cat", "T"))))

    def test_methods_can_have_any_names(self):
        kind = Kind("Cat", Method("Object", way("Cat")), Method("Cat", way("Cat")), Method("T", way("Cat", "Cat")))
        world = World(kind, Role("Box", Method("T", way("T")), T="out"))
        self.assertTrue(world.allows(read("Cat"), ("Object", ()), ("Cat", ()), ("T", ("Cat",))))

    def test_very_large_results(self):
        shape = large_shape("Cat", 2, 6)
        World(CAT, Kind("Dog", Method("eat", Way(shape))), Role("A", T="out", U="none"))
        self.breaks("result", ("Dog", "eat", 0), CAT, Kind("Dog", Method("eat", Way(shape))), Role("A", T="in", U="out"))
        for shape in (large_shape("Bird", 2, 6), large_shape("Cat", 3, 6), large_shape()):
            self.breaks("result", ("Dog", "eat", 0), CAT, Kind("Dog", Method("eat", Way(shape))),
                        Role("A", T="out", U="none"))


class Marks(Refused):

    def box(self, mark, *ways):
        return Role("Box", Method("run", way("Cat")), Method("get", *ways), T=mark, U="both")

    def world(self, mark, *ways):
        return World(CAT, self.box(mark, *ways), Role("Cell", T="in", U="out"), Role("Tag", T="none", U="both"))

    def refused(self, mark, place, *ways):
        place = ("Box", "get", *place)
        self.breaks("mark", place, CAT, self.box(mark, *ways), Role("Cell", T="in", U="out"),
                    Role("Tag", T="none", U="both"))

    def check(self, right, place, *ways):
        """Check that just these marks of T are right, and the place that is named for all others."""
        for mark in ("none", "out", "in", "both"):
            if mark in right:
                self.assertEqual(self.world(mark, *ways)["Box"].marks[0], ("T", mark))
            else:
                self.refused(mark, place, *ways)

    def test_results(self):
        self.check(("out", "both"), (0, "result"), way("T"))
        self.check(("out", "both"), (1, "result"), way("Cat"), way("T | Cat | U"))
        self.check(("none", "out", "in", "both"), None, way("U | Cat"))

    def test_parameters(self):
        self.check(("in", "both"), (0, 0), way("Cat", "T"))
        self.check(("in", "both"), (0, 1), way("Cat", "U", "T | Cat"))
        self.check(("in", "both"), (2, 0), way("Cat", "U"), way("Cat", "Cat"), way("Cat", "T | U"))
        self.check(("both",), (0, 0), way("Cat", "T"), way("Cat", "Cat"))
        self.check(("both",), (1, 1), way("Cat", "Cat", "U"), way("Cat", "Never", "Cat | T"), way("Cat", "Cat", "Cat"))
        self.check(("both",), (0, 0), way("Cat", "T"), way("Cat", "T"))

    def test_arguments_in_results(self):
        self.check(("in", "both"), (0, "result"), way("Cell[T, Cat]"))
        self.check(("out", "both"), (0, "result"), way("Cell[Cat, T]"))
        self.check(("both",), (0, "result"), way("Cell[T, T]"))
        self.check(("none", "out", "in", "both"), None, way("Tag[T, U]"))
        self.check(("both",), (0, "result"), way("Tag[T, T]"))
        self.check(("both",), (0, "result"), way("Cell[Cat, T] | Cell[T, Cat]"))
        self.check(("both",), (0, "result"), way("Box[U, T]"))
        self.check(("none", "out", "in", "both"), None, way("Box[T, U]"))

    def test_the_first_place(self):
        self.refused("none", (0, 1), way("T", "Cat", "T"))
        self.refused("none", (0, "result"), way("T", "Cat"), way("T", "T"))
        self.refused("out", (0, 0), way("T", "T", "T"), way("Cat", "Cat", "Cat"))
        self.refused("in", (0, 0), way("T", "T", "T"), way("Cat", "Cat", "Cat"))
        self.refused("in", (0, "result"), way("T", "T", "T"))
        self.refused("out", (1, 1), way("T", "U", "U"), way("T", "U", "T"))

    def test_the_first_role(self):
        one = Role("Box", Method("get", way("T")), T="in")
        other = Role("Cell", Method("put", way("Object", "U")), U="out")
        self.breaks("mark", ("Box", "get", 0, "result"), one, other)
        self.breaks("mark", ("Cell", "put", 0, 0), other, one)

    def test_demands_of_other_roles_are_those_of_their_marks(self):
        # Nothing in Cell demands anything, but its mark does.
        box = Role("Box", Method("get", way("Cell[T]")), T="none")
        self.breaks("mark", ("Box", "get", 0, "result"), box, Role("Cell", T="out"))
        self.breaks("mark", ("Box", "get", 0, "result"), Role("Cell", T="in"), box)
        self.assertEqual(World(box, Role("Cell", T="none")).roles, ("Box", "Cell"))


class RandomWorlds(Refused):

    def test_places(self):
        """Worlds in which the roles are exchanged for those of another world are mostly wrong."""
        told = {"parameter": 0, "result": 0, None: 0}
        for one, other in zip(random_makers(150), random_makers(151)[1:]):
            exchanged = {part.name: part for part in other.world.declarations if isinstance(part, Role)}
            given = [exchanged.get(part.name, part) for part in one.world.declarations]
            oracle = Oracle(given)
            expected = oracle.first_wrong_place()
            if expected is None and oracle.first_wrong_mark() is not None:
                self.breaks("mark", oracle.first_wrong_mark(), *given)
            elif expected is None:
                World(*given)
            else:
                self.breaks(*expected, *given)
            told[expected[0] if expected else None] += 1
        self.assertGreater(min(told.values()), 4, told)

    def test_other_marks(self):
        wrong = right = 0
        for maker in random_makers(60):
            for mark in ("none", "out", "in", "both"):
                given = []
                for part in maker.world.declarations:
                    if isinstance(part, Role):
                        part = Role(part.name, *part.methods, **{name: mark for name, _ in part.marks})
                    given.append(part)
                oracle = Oracle(given)
                if oracle.first_wrong_place() is not None:
                    self.breaks(*oracle.first_wrong_place(), *given)
                elif oracle.first_wrong_mark() is not None:
                    self.breaks("mark", oracle.first_wrong_mark(), *given)
                    wrong += 1
                else:
                    right += len(World(*given).roles)
        self.assertGreater(wrong, 20)
        self.assertGreater(right, 20)


if __name__ == "__main__":
    unittest.main()
