"""Worlds of kinds and roles."""

from shapetypes.books import Book
from shapetypes.declarations import Kind, Role
from shapetypes.errors import InvalidUse, InvalidWorld, NotAllowed, UnknownName
from shapetypes.marks import check_marks, least_of
from shapetypes.names import OBJECT
from shapetypes.numbering import spots_in
from shapetypes.plans import Plan
from shapetypes.rules import check_names, check_ways
from shapetypes.uses import all_places

# About how many bytes the book of a world may keep that rests.
MAX_RESTING = 2000000


class World:
    """Kinds and roles, and what their shapes allow."""

    MAX_KINDS = 12
    MAX_ROLES = 8

    def __init__(self, *declarations):
        check_names(declarations)
        self._declarations = declarations
        self._kinds = tuple([part.name for part in declarations if isinstance(part, Kind)])
        self._roles = tuple([part.name for part in declarations if isinstance(part, Role)])
        if len(self._kinds) > World.MAX_KINDS or len(self._roles) > World.MAX_ROLES:
            raise InvalidWorld("size")
        self._declared = {part.name: part for part in declarations}
        self._plan = Plan(declarations)
        self._book = Book(self._plan)
        self._least = None
        check_ways(self._book, declarations)
        check_marks(declarations)

    @classmethod
    def of(cls, declarations):
        """The world with a tuple of declarations."""
        return cls(*declarations)

    @property
    def declarations(self):
        return self._declarations

    @property
    def kinds(self):
        return self._kinds

    @property
    def roles(self):
        return self._roles

    def __contains__(self, x):
        return isinstance(x, str) and (x == OBJECT or x in self._declared)

    def __getitem__(self, at):
        if not isinstance(at, str) or at not in self._declared:
            raise UnknownName(at)
        return self._declared[at]

    def __iter__(self):
        raise TypeError("a world is not iterated over")

    def book(self):
        """The book in which one call looks things up: another one once the last one is full."""
        if self._book.is_full():
            self._book = Book(self._plan)
        self._book.tidy()
        return self._book

    def rest(self):
        """Keep only little of what was worked out; for worlds that are kept, but hardly asked any more."""
        if self._book.size() > MAX_RESTING:
            self._book = Book(self._plan)

    def least(self):
        """The least marks of all declarations, by their names."""
        if self._least is None:
            self._least = least_of(self._declarations)
        return self._least

    def is_plain(self, shape):
        """Whether a shape is one of this world."""
        return self.book().is_plain(shape)

    def check_shape(self, shape):
        """Refuse a shape that is not one of this world, by the first of its atoms that is not right."""
        self.book().enter(shape)

    def is_kind_set(self, shape):
        """Whether all atoms of a shape are kinds of this world without arguments."""
        return all([self._plan.is_kind(atom.name) and not atom.arguments for atom in shape.atoms])

    def is_use(self, value):
        """Whether any value is a use with kinds of this world."""
        return self._plan.is_use(value)

    def check_path(self, path):
        """Refuse the first value of a path that is not a use of this world."""
        for spot, use in enumerate(path):
            if not self._plan.is_use(use):
                raise InvalidUse(spot)

    def allows(self, shape, *path):
        """Whether a shape allows a path."""
        book = self.book()
        number = book.enter(shape)
        self.check_path(path)
        result, _ = book.walk(number, path)
        return result is not None

    def result(self, shape, *path):
        """The result of a path that a shape allows."""
        book = self.book()
        number = book.enter(shape)
        self.check_path(path)
        result, spot = book.walk(number, path)
        if result is None:
            raise NotAllowed(spot)
        return book.shape_of(result) if path else shape

    def each_use(self, shape):
        """The uses that a shape allows, ascending; none for Never."""
        book = self.book()
        number = book.enter(shape)
        groups = book.allowed(number)
        for method in sorted([int(method) for method in groups]):
            for spot in spots_in(all_places(groups[method])):
                yield self._plan.use_at(method, spot)


def least_marks(world, name):
    """The tuple of the least marks of the parameters of a declaration."""
    declaration = world[name]
    return world.least()[declaration.name]
