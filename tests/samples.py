"""A few worlds that several tests ask about."""

import itertools

from shapetypes.declarations import Kind, Method, Role, Way
from shapetypes.shapes import Atom, Shape
from shapetypes.worlds import World

read = Shape.read


def way(result, *parameters):
    """The way with these texts of shapes."""
    return Way(read(result), *[read(parameter) for parameter in parameters])


def farm():
    """The world of the document's examples for members and calls."""
    return World(
        Kind("Cat", Method("eat", way("Cat", "Fish"))),
        Kind("Dog", Method("eat", way("Dog", "Fish"), way("Object", "Fish | Cat"))),
        Kind("Fish"), Role("Eater", Method("eat", way("Eater", "Fish"))),
    )


def boxes():
    """A world with roles that have parameters of each mark."""
    return World(
        Kind("Cat", Method("name", way("Cat"))), Kind("Dog", Method("name", way("Dog"))), Kind("Fish"),
        Role("Source", Method("get", way("T")), T="out"),
        Role("Sink", Method("put", way("Object", "T")), T="in"),
        Role("Cell", Method("get", way("T")), Method("put", way("Cell[T]", "T")), T="both"),
        Role("Tag", Method("name", way("Cat | Dog")), T="none"),
        Role("Pair", Method("first", way("T")), Method("second", way("U")), Method("swap", way("Pair[U, T]")),
             T="out", U="out"),
    )


def large_kinds(many, methods=5):
    """As many kinds, each with methods that take all pairs of kinds and have all kinds as results."""
    names = [f"K{number}" for number in range(many)]
    every = Shape.of_names(*names)
    made = []
    for number, name in enumerate(names):
        given = [Method(f"m{spot}", Way(Shape.of_names(names[(number + spot) % many]), every, every))
                 for spot in range(methods)]
        made.append(Kind(name, *given))
    return made


def numbered(role, many):
    """As many different atoms of a role with two parameters, for which there are seven kinds."""
    sets = [Shape.of_names(*names) for size in range(8) for names in itertools.combinations("ABCDEFG", size)]
    return [Atom(role, *pair) for pair in itertools.islice(itertools.product(sets, repeat=2), many)]


def cycles():
    """A world in which the shape A | D has 12 shapes as results of next, one after the other, and then itself.

    Boxes have themselves as the result of next, and bags have no method.
    """
    after = {"A": "B", "B": "C", "C": "A", "D": "E", "E": "F", "F": "G", "G": "D"}
    return World(
        *[Kind(one, Method("next", way(other))) for one, other in after.items()],
        Role("Box", Method("next", way("Box[T, U]")), T="none", U="none"),
        Role("Bag", T="none", U="none"), Role("Next", Method("next", way("Next"))),
    )


def stairs():
    """The largest number of kinds; the call of pick of the kind K0 has twelve of them as results, K1 eleven, and so on.

    The call of stop has none, and only the last kind allows last.
    """
    names = [f"K{number}" for number in range(12)]
    roles = [Role(f"L{number}", Method("at", way("Object", name))) for number, name in enumerate(names[:8])]
    kinds = []
    for number, name in enumerate(names):
        given = [
            Method("at", Way(read("Object"), Shape.of_names(*names[:number + 1]))),
            Method("pick", way(f"L{number}" if number < 8 else name)), Method("stop", way("Never")),
        ]
        kinds.append(Kind(name, *given, *([Method("last", way("K11"))] if number == 11 else [])))
    return World(*kinds, *roles)
