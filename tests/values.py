"""Values of every kind, to be passed where a value is expected that they are not."""

from shapetypes.declarations import Kind, Method, Role, Way
from shapetypes.errors import InvalidAtom
from shapetypes.shapes import Atom, Shape


def shared_tuple(levels=60):
    """A tuple nested as deep as this, which contains each of its parts twice."""
    value = ("Cat",)
    for _ in range(levels):
        value = (value, value)
    return value


def shared_list(levels=60):
    value = ["Cat"]
    for _ in range(levels):
        value = [value, value]
    return value


def shared_dict(levels=60):
    value = {"Cat": "out"}
    for _ in range(levels):
        value = {"one": value, "other": value}
    return value


def deep_tuple(levels=100):
    value = ()
    for _ in range(levels):
        value = (value,)
    return value


def large_shape(word="Cat", many=110, levels=6):
    """A shape whose text would have more than 2 ** 40 characters."""
    shape = Shape.of_names(word)
    for _ in range(levels):
        shape = Shape(Atom("A", *[shape] * many))
    return shape


def way():
    return Way(Shape.of_names("Cat"))


# No value of this list is a shape, an atom, a way, a method, a name or a mark.
PLAIN = [
    None, True, False, 0, 1, -1, 10 ** 999, -10 ** 999, "", " ", "Never", "1a", "a b", "a" * 21, "%", "\n",
    "x" * 20000, b"", b"Cat", [], ["Cat"], (), ("Cat",), ("Cat", "Dog"), {}, {"Cat": "out"},
    {"T"}, frozenset(["Cat"]), [Shape()], (Shape(),), [Atom("Cat")], (Atom("Cat"),), [way()], (way(),),
    {"T": Shape()}, int, str, object(), len, lambda: "Cat", Shape, Atom, Way, Method, Kind, Role, range(3),
    shared_tuple(), shared_list(), shared_dict(), deep_tuple(), Kind("Cat"), Role("Cat"), InvalidAtom("name"),
]


def values_besides(*others):
    """All values of the list, and others."""
    return [*PLAIN, *others]
