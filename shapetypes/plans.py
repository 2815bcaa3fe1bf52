"""What the declarations of a world say, taken apart and put into numbers."""

from shapetypes.declarations import Kind, Role
from shapetypes.marks import parameter_in, spots_of
from shapetypes.names import OBJECT, is_name


class Template:
    """A way, taken apart.

    wanted tells for each parameter its kinds, as the bits of their ranks, and the positions of the
    parameters of the role that stand in it. The result consists of the fixed atoms, of the atoms of the
    arguments at the spread positions, and of the filled atoms: pairs of a name and its arguments, each
    one a shape or the position of the argument that takes its place.
    """

    def __init__(self, way, ranks, spots):
        self.wanted = tuple([wanted_kinds(parameter, ranks, spots) for parameter in way.parameters])
        fixed = []
        spread = []
        filled = []
        for atom in way.gives.atoms:
            if atom.name in spots:
                spread.append(spots[atom.name])
            elif any([parameter_in(argument, spots) is not None for argument in atom.arguments]):
                filled.append((atom.name, tuple([filling(argument, spots) for argument in atom.arguments])))
            else:
                fixed.append(atom)
        self.fixed = tuple(fixed)
        self.spread = tuple(spread)
        self.filled = tuple(filled)


def wanted_kinds(parameter, ranks, spots):
    """The bits of the ranks of the kinds in a parameter of a way, and the positions that stand in it."""
    bits = 0
    positions = []
    for atom in parameter.atoms:
        if atom.name in spots:
            positions.append(spots[atom.name])
        else:
            bits = bits | 1 << ranks[atom.name]
    return bits, tuple(positions)


def filling(argument, spots):
    """An argument in a result: the position of the parameter that it is, or else itself."""
    spot = parameter_in(argument, spots)
    return argument if spot is None else spot


class Plan:
    """The kinds of a world, its uses by number, and what each declaration says.

    Kinds are ranked by their names. A use is told by two numbers: that of its method, for as many arguments,
    and the place of its arguments among all tuples of as many kinds. So the uses of a method are numbered in
    ascending order, and methods by their names.
    """

    def __init__(self, declarations):
        self.order = tuple([declaration.name for declaration in declarations if isinstance(declaration, Kind)])
        self.ranked = sorted([str(kind) for kind in self.order])
        self.ranks = {kind: rank for rank, kind in enumerate(self.ranked)}
        self.marked = {OBJECT: ()}
        self._declared = {}
        for declaration in declarations:
            self._declared[declaration.name] = declaration
            self.marked[declaration.name] = marks_of(declaration)
        self._tuples = tuples_of(self.ranked)
        self._signatures = signatures_of(declarations)
        self._methods = {pair: number for number, pair in enumerate(self._signatures)}
        self._spots = {kinds: spot for row in self._tuples for spot, kinds in enumerate(row)}
        self._templates = {}

    def is_kind(self, value):
        """Whether any value is the name of a kind."""
        return isinstance(value, str) and value in self.ranks

    def is_use(self, value):
        """Whether any value is a use with kinds of the world."""
        if not isinstance(value, tuple) or len(value) != 2:
            return False
        name, kinds = value
        return is_name(name) and isinstance(kinds, tuple) and all([self.is_kind(kind) for kind in kinds])

    def numbers_of(self, use):
        """The two numbers of a use, or twice None if no declaration has a method for it."""
        name, kinds = use
        method = self._methods.get((name, len(kinds)))
        return (None, None) if method is None else (method, self._spots[kinds])

    def use_at(self, method, spot):
        """The use with these numbers."""
        name, many = self._signatures[method]
        return name, self._tuples[many][spot]

    def kinds_at(self, many, spot):
        """The tuple at a place among the tuples of as many kinds."""
        return self._tuples[many][spot]

    def templates(self, name):
        """The methods of a declaration or Object: triples of name, number, and templates of ways."""
        if name not in self._templates:
            told = []
            if name in self._declared:
                spots = spots_of(self._declared[name])
                for method in self._declared[name].methods:
                    number = self._methods[(method.name, len(method.ways[0].parameters))]
                    ways = tuple([Template(way, self.ranks, spots) for way in method.ways])
                    told.append((method.name, number, ways))
            self._templates[name] = tuple(told)
        return self._templates[name]


def marks_of(declaration):
    """The marks of the parameters of a declaration."""
    if not isinstance(declaration, Role):
        return ()
    return tuple([mark for _, mark in declaration.marks])


def tuples_of(kinds):
    """The tuples of none, one and two of the kinds, each ascending."""
    return [()], [(kind,) for kind in kinds], [(kind, other) for kind in kinds for other in kinds]


def signatures_of(declarations):
    """The pairs of the names and numbers of parameters of all methods, by their names."""
    found = {}
    for declaration in declarations:
        for method in declaration.methods:
            found.setdefault(method.name, {})[len(method.ways[0].parameters)] = True
    return [(name, many) for name in sorted([str(each) for each in found]) for many in found[name]]
