"""Declarations of kinds and roles, with their methods and the ways of these."""

from shapetypes.errors import InvalidDeclaration
from shapetypes.names import is_free_name, is_name
from shapetypes.shapes import Shape

MARKS = ("none", "out", "in", "both")


class Way:
    """Parameters, and what a method gives if it takes arguments in this way."""

    MAX_PARAMETERS = 2

    def __init__(self, result, *parameters):
        if not isinstance(result, Shape):
            raise InvalidDeclaration("result")
        for spot, parameter in enumerate(parameters):
            if not isinstance(parameter, Shape) or parameter.depth > 0:
                raise InvalidDeclaration("parameter", spot)
        if len(parameters) > Way.MAX_PARAMETERS:
            raise InvalidDeclaration("size")
        self._gives = result
        self._parameters = parameters

    @property
    def gives(self):
        return self._gives

    @property
    def parameters(self):
        return self._parameters


class Method:
    """A name with ways, which have the same number of parameters."""

    MAX_WAYS = 4

    def __init__(self, name, *ways):
        if not is_name(name):
            raise InvalidDeclaration("name")
        for spot, way in enumerate(ways):
            if not isinstance(way, Way) or len(way.parameters) != len(ways[0].parameters):
                raise InvalidDeclaration("way", spot)
        if not 1 <= len(ways) <= Method.MAX_WAYS:
            raise InvalidDeclaration("size")
        self._name = name
        self._ways = ways

    @classmethod
    def of(cls, name, ways):
        """The method with a tuple of ways."""
        return cls(name, *ways)

    @property
    def name(self):
        return self._name

    @property
    def ways(self):
        return self._ways


class Declaration:
    """What kinds and roles have in common; it is never created itself."""

    MAX_METHODS = 5

    def __init__(self, name, methods):
        if not is_free_name(name):
            raise InvalidDeclaration("name")
        known = {}
        for spot, method in enumerate(methods):
            if not isinstance(method, Method) or method.name in known:
                raise InvalidDeclaration("method", spot)
            known[method.name] = True
        if len(methods) > Declaration.MAX_METHODS:
            raise InvalidDeclaration("size")
        self._name = name
        self._methods = methods


class Kind(Declaration):
    """A kind: every value has one."""

    def __init__(self, name, *methods):
        super().__init__(name, methods)

    @classmethod
    def of(cls, name, methods):
        """The kind with a tuple of methods."""
        return cls(name, *methods)

    @property
    def name(self):
        return self._name

    @property
    def methods(self):
        return self._methods


class Role(Declaration):
    """A role, which can have parameters with marks."""

    MAX_PARAMETERS = 2

    def __init__(self, name, *methods, **marks):
        super().__init__(name, methods)
        for parameter, mark in marks.items():
            if not is_free_name(parameter) or not is_mark(mark):
                raise InvalidDeclaration("mark", parameter)
        if len(marks) > Role.MAX_PARAMETERS:
            raise InvalidDeclaration("size")
        self._marks = tuple(marks.items())

    @classmethod
    def of(cls, name, methods, marks):
        """The role with a tuple of methods, and a dict from its parameters to their marks."""
        return cls(name, *methods, **marks)

    @property
    def name(self):
        return self._name

    @property
    def methods(self):
        return self._methods

    @property
    def marks(self):
        return self._marks


def is_mark(value):
    """Whether any value is a mark."""
    return isinstance(value, str) and value in MARKS
