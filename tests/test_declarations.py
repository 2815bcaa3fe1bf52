"""Ways, methods, kinds and roles."""

import unittest

from shapetypes.declarations import Declaration, Kind, Method, Role, Way
from shapetypes.errors import InvalidDeclaration
from shapetypes.shapes import Atom, Shape
from values import large_shape, values_besides

CAT, DOG = Shape.of_names("Cat"), Shape.of_names("Dog")
BOX = Shape(Atom("Box", CAT))
NO_NAMES = ["", "Never", "1", "1a", "_", "_a", "a" * 21, "a ", " a", "a\n", "a-b", "Caf\u00e9"]
MARKS = ("none", "out", "in", "both")


def ways(many, parameters=0):
    return [Way(CAT, *[DOG] * parameters) for _ in range(many)]


def methods(many):
    return [Method(f"m{number}", Way(CAT)) for number in range(many)]


class Rules(unittest.TestCase):

    def breaks(self, rule, item, create, *values, **marks):
        with self.assertRaises(InvalidDeclaration) as caught:
            create(*values, **marks)
        error = caught.exception
        self.assertEqual((error.rule, type(error.item)), (rule, type(item)))
        # Objects are compared by identity: most of them are equal to themselves only.
        if isinstance(item, (str, int)):
            self.assertEqual(error.item, item)
        else:
            self.assertIs(error.item, item)


class Ways(Rules):

    def test_properties(self):
        for parameters in ((), (CAT,), (DOG, CAT | DOG), (Shape(), Shape())):
            made = Way(BOX, *parameters)
            self.assertIs(made.gives, BOX)
            self.assertIsInstance(made.parameters, tuple)
            self.assertEqual(len(made.parameters), len(parameters))
            for parameter, given in zip(made.parameters, parameters):
                self.assertIs(parameter, given)

    def test_results(self):
        for result in (Shape(), CAT, BOX, large_shape()):
            self.assertIs(Way(result).gives, result)
        for value in values_besides("Cat", Atom("Cat"), Way(CAT)):
            self.breaks("result", None, Way, value)
            self.breaks("result", None, Way, value, value, CAT, CAT, CAT)

    def test_parameters(self):
        deep = (BOX, CAT | BOX, Shape(Atom("Box", Shape())), large_shape())
        for value in values_besides("Cat", Atom("Cat"), Way(CAT), *deep):
            self.breaks("parameter", 0, Way, CAT, value)
            self.breaks("parameter", 0, Way, CAT, value, value, value)
            self.breaks("parameter", 1, Way, CAT, CAT, value)
            self.breaks("parameter", 2, Way, CAT, CAT, CAT, value)
            self.breaks("parameter", 3, Way, CAT, CAT, CAT, Shape(), value, value)

    def test_lists_and_tuples_are_no_parameters(self):
        self.breaks("parameter", 0, Way, CAT, [CAT])
        self.breaks("parameter", 0, Way, CAT, (CAT, CAT))
        self.breaks("parameter", 0, Way, CAT, ())

    def test_sizes(self):
        self.assertEqual(Way.MAX_PARAMETERS, 2)
        for many in (3, 4, 50):
            self.breaks("size", None, Way, CAT, *[CAT] * many)

    def test_by_name(self):
        self.assertIs(Way(result=CAT).gives, CAT)
        self.breaks("result", None, lambda: Way(result=None))


class Methods(Rules):

    def test_properties(self):
        for parameters in range(3):
            for many in range(1, 5):
                given = ways(many, parameters)
                by_name = Method.of(ways=tuple(given), name="eat")
                for method in (Method("eat", *given), Method.of("eat", tuple(given)), by_name):
                    self.assertIs(type(method), Method)
                    self.assertEqual((method.name, method.ways), ("eat", tuple(given)))

    def test_names(self):
        for name in ("a", "Object", "a" * 20, "eat_2"):
            self.assertEqual(Method(name, Way(CAT)).name, name)
        for name in values_besides(*NO_NAMES, CAT, Atom("Cat")):
            self.breaks("name", None, Method, name, Way(CAT))
            self.breaks("name", None, Method, name, None)
            self.breaks("name", None, Method, name)
            self.breaks("name", None, Method.of, name, (None,))
        self.breaks("name", None, lambda: Method(name="1"))

    def test_ways(self):
        for value in values_besides("Cat", CAT, Atom("Cat"), Method("eat", Way(CAT))):
            self.breaks("way", 0, Method, "eat", value)
            self.breaks("way", 0, Method, "eat", value, Way(CAT), value)
            self.breaks("way", 1, Method, "eat", Way(CAT), value)
            self.breaks("way", 4, Method, "eat", *ways(4), value, value)
            self.breaks("way", 5, Method.of, "eat", (*ways(5), value))

    def test_lists_and_tuples_are_no_ways(self):
        self.breaks("way", 0, Method, "eat", [Way(CAT)])
        self.breaks("way", 0, Method, "eat", (Way(CAT),))

    def test_numbers_of_parameters(self):
        for first in range(3):
            for other in range(3):
                if first != other:
                    self.breaks("way", 1, Method, "eat", *ways(1, first), *ways(2, other))
                    self.breaks("way", 3, Method, "eat", *ways(3, first), *ways(1, other), *ways(1, first))
                    self.breaks("way", 4, Method.of, "eat", (*ways(4, first), *ways(1, other)))
                    self.breaks("way", 1, Method, "eat", *ways(1, first), *ways(1, other), None)
                    self.breaks("way", 1, Method, "eat", *ways(1, first), None, *ways(1, other))

    def test_sizes(self):
        self.assertEqual(Method.MAX_WAYS, 4)
        self.breaks("size", None, Method, "eat")
        self.breaks("size", None, Method.of, "eat", ())
        for many in (5, 6, 100):
            self.breaks("size", None, Method, "eat", *ways(many, 1))
            self.breaks("size", None, Method.of, "eat", tuple(ways(many)))

    def test_a_way_can_occur_twice(self):
        one = Way(CAT, DOG)
        self.assertEqual(Method("eat", one, one).ways, (one, one))


class Declarations(Rules):

    def creators(self):
        """Constructors of kinds and roles, and the class methods that do the same."""
        return (
            Kind, lambda name, *given: Kind.of(name, given), Role, lambda name, *given: Role.of(name, given, {}),
            lambda name, *given: Role.of(name, given, {"T": "out"}), lambda name, *given: Role(name, *given, T="in"),
        )

    def test_base_class(self):
        self.assertEqual(Kind.__bases__, (Declaration,))
        self.assertEqual(Role.__bases__, (Declaration,))
        self.assertFalse(issubclass(Kind, Role) or issubclass(Role, Kind))
        self.assertIsInstance(Kind("Cat"), Declaration)
        self.assertIsInstance(Role("Cat"), Declaration)
        self.assertEqual((Declaration.MAX_METHODS, Kind.MAX_METHODS, Role.MAX_METHODS), (5, 5, 5))

    def test_properties(self):
        for create in self.creators():
            for many in range(6):
                given = methods(many)
                made = create("Cat", *given)
                self.assertEqual((made.name, made.methods), ("Cat", tuple(given)))

    def test_classes(self):
        self.assertIs(type(Kind("Cat")), Kind)
        self.assertIs(type(Kind.of("Cat", ())), Kind)
        self.assertIs(type(Role("Cat")), Role)
        self.assertIs(type(Role.of("Cat", (), {})), Role)

    def test_names(self):
        for create in self.creators():
            for name in ("a", "Objects", "object", "a" * 20):
                self.assertEqual(create(name).name, name)
            for name in values_besides(*NO_NAMES, "Object", CAT, Atom("Cat")):
                self.breaks("name", None, create, name)
                self.breaks("name", None, create, name, None)
                self.breaks("name", None, create, name, *methods(6))

    def test_methods(self):
        for create in self.creators():
            for value in values_besides("eat", CAT, Atom("Cat"), Way(CAT)):
                self.breaks("method", 0, create, "Cat", value)
                self.breaks("method", 0, create, "Cat", value, *methods(1), value)
                self.breaks("method", 1, create, "Cat", *methods(1), value)
                self.breaks("method", 5, create, "Cat", *methods(5), value)
                self.breaks("method", 6, create, "Cat", *methods(6), value)

    def test_lists_and_tuples_are_no_methods(self):
        for create in self.creators():
            self.breaks("method", 0, create, "Cat", methods(1))
            self.breaks("method", 0, create, "Cat", tuple(methods(1)))

    def test_methods_that_occur_twice(self):
        for create in self.creators():
            first, second, *others = methods(5)
            self.breaks("method", 1, create, "Cat", first, first)
            self.breaks("method", 2, create, "Cat", first, second, Method("m0", Way(DOG, CAT)), None)
            self.breaks("method", 5, create, "Cat", first, second, *others, second)
            self.breaks("method", 1, create, "Cat", first, Method("m0", Way(CAT)), first)

    def test_sizes(self):
        for create in self.creators():
            for many in (6, 7, 100):
                self.breaks("size", None, create, "Cat", *methods(many))

    def test_by_name(self):
        given = tuple(methods(2))
        self.assertEqual(Kind(name="Cat").name, "Cat")
        self.assertEqual(Kind.of(methods=given, name="Cat").methods, given)
        self.assertEqual(Role(name="Cat", T="out").marks, (("T", "out"),))
        role = Role.of(marks={"T": "in"}, methods=given, name="Cat")
        self.assertEqual((role.name, role.methods, role.marks), ("Cat", given, (("T", "in"),)))

    def test_no_operators(self):
        for value in (Way(CAT), Method("eat", Way(CAT)), Kind("Cat"), Role("Cat")):
            for other in values_besides(CAT, Atom("Cat"), value):
                for operate in (
                    lambda: value < other, lambda: value >= other, lambda: value | other, lambda: other & value,
                ):
                    with self.assertRaises(TypeError):
                        operate()
            self.assertIs(value == value, True)
            self.assertIs(value == "Cat", False)
            self.assertIs(value != Atom("Cat"), True)


class Marks(Rules):

    def creators(self):
        """The constructor of roles, and the class method that does the same."""
        return (
            lambda *given, **marks: Role("Box", *given, **marks),
            lambda *given, **marks: Role.of("Box", given, marks),
        )

    def test_marks(self):
        for create in self.creators():
            self.assertEqual(create().marks, ())
            for mark in MARKS:
                self.assertEqual(create(T=mark).marks, (("T", mark),))
                for other in MARKS:
                    self.assertEqual(create(T=mark, S=other).marks, (("T", mark), ("S", other)))
                    self.assertEqual(create(*methods(5), S=mark, T=other).marks, (("S", mark), ("T", other)))

    def test_marks_are_a_tuple_of_pairs(self):
        marks = Role("Box", T="out", S="in").marks
        self.assertIs(type(marks), tuple)
        self.assertEqual([type(pair) for pair in marks], [tuple, tuple])

    def test_parameters_that_are_no_names(self):
        for create in self.creators():
            for name in [*NO_NAMES, "Object", "x" * 20000]:
                self.breaks("mark", name, create, **{name: "out"})
                self.breaks("mark", name, create, **{"T": "in", name: "out", "_": "up"})
                self.breaks("mark", name, create, **{"T": "in", "S": "in", name: "out"})

    def test_parameters_with_other_names(self):
        for create in self.creators():
            for name in ("T", "Objects", "cls", "marks", "a" * 20, "Box", "m0"):
                self.assertEqual(create(*methods(1), **{name: "out"}).marks, ((name, "out"),))

    def test_values_that_are_no_marks(self):
        texts = ("Out", "out ", "inout", "o", "none | in")
        for create in self.creators():
            for value in values_besides(*texts, CAT, Atom("Cat"), Way(CAT), ["out"], ("in",)):
                self.breaks("mark", "T", create, T=value)
                self.breaks("mark", "T", create, T=value, S=value, U=value)
                self.breaks("mark", "S", create, T="none", S=value)
                self.breaks("mark", "U", create, T="none", S="both", U=value, V=None)

    def test_the_item_is_the_text_that_was_passed(self):
        name = "".join(["no ", "name"])
        with self.assertRaises(InvalidDeclaration) as caught:
            Role.of("Box", (), {name: "out"})
        self.assertIs(caught.exception.item, name)

    def test_sizes(self):
        self.assertEqual(Role.MAX_PARAMETERS, 2)
        for create in self.creators():
            self.breaks("size", None, create, T="in", S="out", U="both")
            self.breaks("size", None, create, **{f"T{number}": "in" for number in range(50)})

    def test_the_first_broken_rule(self):
        for create in self.creators():
            self.breaks("method", 0, create, None, T="up")
            self.breaks("size", None, create, *methods(6), T="up")
            self.breaks("mark", "T", create, *methods(5), T="up")
        self.breaks("name", None, Role, "Object", None, T="up")
        self.breaks("name", None, Role.of, "Never", (None,), {"T": "up"})

    def test_later_changes_of_the_dict_have_no_effect(self):
        marks = {"T": "out", "S": "in"}
        role = Role.of("Box", (), marks)
        self.assertEqual(marks, {"T": "out", "S": "in"})
        marks["T"] = "both"
        marks["U"] = "none"
        del marks["S"]
        self.assertEqual(role.marks, (("T", "out"), ("S", "in")))
        other = Role("Box", **marks)
        marks.clear()
        self.assertEqual(other.marks, (("T", "both"), ("U", "none")))


if __name__ == "__main__":
    unittest.main()
