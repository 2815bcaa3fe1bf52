"""What the document says of worlds, worked out in the plainest way, to compare the program with.

Nothing here uses the functions of worlds, fitting, members and calls: only declarations, atoms and shapes.
"""

import itertools

from shapetypes.declarations import Kind, Role
from shapetypes.errors import TooLarge
from shapetypes.shapes import Atom, Shape

DEMANDS = {"none": set(), "out": {"out"}, "in": {"in"}, "both": {"out", "in"}}


class Wrong(Exception):
    """The first error of check_shape: the name of its class and its word."""


class Oracle:
    """The answers for a tuple of declarations."""

    def __init__(self, declarations):
        self.declared = {declaration.name: declaration for declaration in declarations}
        self.declarations = declarations
        self.kinds = [part.name for part in declarations if isinstance(part, Kind)]
        self.results = {}
        self.allowed = {}

    # Point [21]

    def marks(self, name):
        declaration = self.declared.get(name)
        return [mark for _, mark in declaration.marks] if isinstance(declaration, Role) else []

    def is_kind_set(self, shape):
        return all(atom.name in self.kinds and not atom.arguments for atom in shape.atoms)

    def check(self, shape):
        for atom in shape.atoms:
            if atom.name != "Object" and atom.name not in self.declared:
                raise Wrong("UnknownName", atom.name)
            if len(atom.arguments) != len(self.marks(atom.name)):
                raise Wrong("WrongArguments", atom.name)
            for mark, argument in zip(self.marks(atom.name), atom.arguments):
                self.check(argument)
                if mark in ("in", "both") and not self.is_kind_set(argument):
                    raise Wrong("WrongArguments", atom.name)

    def is_plain(self, shape):
        try:
            self.check(shape)
        except Wrong:
            return False
        return True

    # Points [23] and [30]

    def bindings(self, atom):
        declaration = self.declared.get(atom.name)
        if not isinstance(declaration, Role):
            return {}
        return {parameter: shape for (parameter, _), shape in zip(declaration.marks, atom.arguments)}

    def replaced(self, shape, bound):
        atoms = []
        for atom in shape.atoms:
            if atom.name in bound and not atom.arguments:
                atoms.extend(bound[atom.name].atoms)
            else:
                atoms.append(Atom(atom.name, *[self.replaced(argument, bound) for argument in atom.arguments]))
        return Shape(*atoms)

    def methods(self, atom):
        """The methods of an atom: lists of pairs of parameters (lists of names) and results, by names."""
        declaration = self.declared.get(atom.name)
        bound = self.bindings(atom)
        told = {}
        for method in declaration.methods if declaration else ():
            told[method.name] = []
            for way in method.ways:
                parameters = [[part.name for part in self.replaced(parameter, bound).atoms]
                              for parameter in way.parameters]
                told[method.name].append((parameters, self.replaced(way.gives, bound)))
        return told

    def all_uses(self):
        """All uses of methods of any declaration, and of one more, with up to two kinds, ascending."""
        names = {method.name for part in self.declarations for method in part.methods} | {"another"}
        tuples = [kinds for many in range(3) for kinds in itertools.product(self.kinds, repeat=many)]
        return sorted(itertools.product(names, tuples))

    def result_of_atom(self, atom, use):
        """The result of a use, or None if the atom does not allow it."""
        key = (atom.text, use)
        if key not in self.results:
            self.results[key] = None
            name, kinds = use
            for parameters, result in self.methods(atom).get(name, []):
                if len(parameters) == len(kinds) and all(k in parts for k, parts in zip(kinds, parameters)):
                    self.results[key] = result
                    break
        return self.results[key]

    def result(self, shape, *path):
        for use in path:
            results = [self.result_of_atom(atom, use) for atom in shape.atoms]
            if None in results:
                return None
            shape = Shape(*[atom for result in results for atom in result.atoms])
        return shape

    def uses(self, shape):
        if not shape.atoms:
            return []
        if shape.text not in self.allowed:
            self.allowed[shape.text] = [use for use in self.all_uses() if self.result(shape, use) is not None]
        return self.allowed[shape.text]

    # Points [32] to [34]

    def breaking_use(self, source, target):
        """A shortest breaking use, found by paths alone, or None."""
        queue, seen = [(source, target, ())], {(source.text, target.text)}
        while queue:
            source, target, path = queue.pop(0)
            if not target.atoms:
                if source.atoms:
                    return (*path, ("another", ()))
                continue
            for use in self.uses(target):
                results = self.result(source, use), self.result(target, use)
                if results[0] is None:
                    return (*path, use)
                if (results[0].text, results[1].text) not in seen:
                    seen.add((results[0].text, results[1].text))
                    queue.append((*results, (*path, use)))
        return None

    def fails(self, atom, target):
        if not target.atoms:
            return True
        return any(self.result_of_atom(atom, use) is None for use in self.uses(target))

    def steps(self, atom, target):
        for use in self.uses(target):
            following = self.result(target, use)
            for part in self.result_of_atom(atom, use).atoms:
                yield part, following

    def reached(self, source, target, most=None):
        """The texts of all reached pairs, or of more than most, and whether none of them fails."""
        queue = [(atom, target) for atom in source.atoms]
        seen, fitting = {}, True
        while queue and (most is None or len(seen) <= most):
            atom, shape = queue.pop()
            if (atom.text, shape.text) in seen:
                continue
            seen[atom.text, shape.text] = True
            if self.fails(atom, shape):
                fitting = False
            else:
                queue.extend(self.steps(atom, shape))
        return set(seen), fitting

    def fits(self, source, target):
        return self.reached(source, target)[1]

    def is_derivation(self, source, target, pairs):
        told = {(atom.text, shape.text) for atom, shape in pairs}
        if any((atom.text, target.text) not in told for atom in source.atoms):
            return False
        for atom, shape in pairs:
            if self.fails(atom, shape):
                return False
            if any((part.text, following.text) not in told for part, following in self.steps(atom, shape)):
                return False
        return True

    # Point [50]

    def members(self, shape):
        return tuple(kind for kind in self.kinds if self.fits(Shape.of_names(kind), shape))

    # Points [22] and [24], and rules 3 and 4 of World

    def parameters(self, declaration):
        return dict(declaration.marks) if isinstance(declaration, Role) else {}

    def right_result(self, shape, parameters):
        for atom in shape.atoms:
            if atom.name in parameters and not atom.arguments:
                continue
            if atom.name != "Object" and atom.name not in self.declared:
                return False
            marks = self.marks(atom.name)
            if len(marks) != len(atom.arguments):
                return False
            for mark, argument in zip(marks, atom.arguments):
                if argument.text in parameters:
                    continue
                if not self.is_plain(argument) or mark in ("in", "both") and not self.is_kind_set(argument):
                    return False
        return True

    def each_way(self):
        for declaration in self.declarations:
            for method in declaration.methods:
                for number, way in enumerate(method.ways):
                    yield declaration, method, number, way

    def first_wrong_place(self):
        for declaration, method, number, way in self.each_way():
            parameters = self.parameters(declaration)
            for spot, parameter in enumerate(way.parameters):
                if any(atom.name not in parameters and atom.name not in self.kinds for atom in parameter.atoms):
                    return "parameter", (declaration.name, method.name, number, spot)
            if not self.right_result(way.gives, parameters):
                return "result", (declaration.name, method.name, number)
        return None

    def demands(self, marks):
        """All places with the parameter that stands there and its demands, if the parameters have these marks."""
        for declaration, method, number, way in self.each_way():
            at = (declaration.name, method.name, number)
            parameters = self.parameters(declaration)
            last = number == len(method.ways) - 1
            for spot, parameter in enumerate(way.parameters):
                for atom in parameter.atoms:
                    if atom.name in parameters:
                        yield (*at, spot), (declaration.name, atom.name), {"in"} if last else {"in", "out"}
            for atom in way.gives.atoms:
                if atom.name in parameters:
                    yield (*at, "result"), (declaration.name, atom.name), {"out"}
                elif atom.arguments:
                    for (other, _), argument in zip(self.declared[atom.name].marks, atom.arguments):
                        if argument.text in parameters:
                            demanded = DEMANDS[marks[atom.name, other]]
                            yield (*at, "result"), (declaration.name, argument.text), demanded

    def first_wrong_mark(self, marks=None):
        marks = marks or self.declared_marks()
        for place, parameter, demands in self.demands(marks):
            if not demands <= DEMANDS[marks[parameter]]:
                return place
        return None

    def declared_marks(self):
        return {(part.name, parameter): mark for part in self.declarations
                for parameter, mark in self.parameters(part).items()}

    def least_marks(self):
        """The least of all marks that are right, found by trying all marks."""
        names = list(self.declared_marks())
        right = []
        for given in itertools.product(DEMANDS, repeat=len(names)):
            marks = dict(zip(names, given))
            if not names or self.first_wrong_mark(marks) is None:
                right.append(marks)
        least = [marks for marks in right if all(
            DEMANDS[marks[name]] <= DEMANDS[other[name]] for other in right for name in names)]
        assert len(least) == 1
        return least[0]


class Bounded(Oracle):
    """An oracle that knows the limit of pairs."""

    def __init__(self, declarations):
        super().__init__(declarations)
        self.fitting = {}

    def fits(self, source, target):
        key = source.text, target.text
        if key not in self.fitting:
            reached, fitting = self.reached(source, target, 2000)
            self.fitting[key] = fitting if len(reached) <= 2000 else None
        if self.fitting[key] is None:
            raise TooLarge(2000)
        return self.fitting[key]
