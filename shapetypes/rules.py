"""The rules that the declarations of a world keep, besides those of marks."""

from shapetypes.declarations import Kind, Role
from shapetypes.errors import InvalidWorld
from shapetypes.facts import KIND_SET_MARKS, facts_of
from shapetypes.marks import parameter_in, spots_of


def check_names(declarations):
    """Refuse the first value that is no declaration or whose name is taken, then the first such parameter."""
    known = {}
    for spot, value in enumerate(declarations):
        if not isinstance(value, Kind) and not isinstance(value, Role):
            raise InvalidWorld("declaration", spot)
        if value.name in known:
            raise InvalidWorld("name", value.name)
        known[value.name] = True
    for declaration in declarations:
        for parameter in spots_of(declaration):
            if parameter in known:
                raise InvalidWorld("name", parameter)


def check_ways(book, declarations):
    """Refuse the first parameter or result of a way that is not right."""
    for declaration in declarations:
        spots = spots_of(declaration)
        for method in declaration.methods:
            for number, way in enumerate(method.ways):
                check_way(book, way, spots, (declaration.name, method.name, number))


def check_way(book, way, spots, at):
    """Refuse the first parameter of a way that is not right, or its result."""
    for position, parameter in enumerate(way.parameters):
        for atom in parameter.atoms:
            if atom.name not in spots and not book.plan.is_kind(atom.name):
                raise InvalidWorld("parameter", (*at, position))
    if not is_right_result(book, way.gives, spots):
        raise InvalidWorld("result", at)


def is_right_result(book, shape, spots):
    """Whether a shape can be the result of a way."""
    facts = facts_of(shape.key)
    if facts is None or any([parameter in facts.names for parameter in spots]):
        return all([is_right(book, atom, spots) for atom in shape.atoms])
    return facts.hold(book.plan)


def is_right(book, atom, spots):
    """Whether an atom can stand in the result of a way."""
    if atom.name in spots:
        return not atom.arguments
    marks = book.plan.marked.get(atom.name)
    if marks is None or len(marks) != len(atom.arguments):
        return False
    return all([is_right_argument(book, argument, mark, spots) for mark, argument in zip(marks, atom.arguments)])


def is_right_argument(book, argument, mark, spots):
    """Whether a shape can be an argument in a result, for a parameter with this mark."""
    if parameter_in(argument, spots) is not None:
        return True
    if mark in KIND_SET_MARKS:
        return all([book.plan.is_kind(atom.name) and not atom.arguments for atom in argument.atoms])
    facts = facts_of(argument.key)
    return book.is_plain(argument) if facts is None else facts.hold(book.plan)
