"""Atoms and shapes."""

from shapetypes.errors import InvalidAtom, InvalidShape
from shapetypes.keys import key_of
from shapetypes.names import is_name
from shapetypes.reading import MAX_DEPTH, read_tree
from shapetypes.writing import ascending, write_text


class Atom:
    """A name with a tuple of arguments, which are shapes.

    The key is the one of the shape with this atom alone.
    """

    def __init__(self, name, *arguments):
        if not is_name(name):
            raise InvalidAtom("name")
        for spot, argument in enumerate(arguments):
            if not isinstance(argument, Shape):
                raise InvalidAtom(spot)
        depth = max([1 + int(argument.depth) for argument in arguments], default=0)
        if depth > MAX_DEPTH:
            raise InvalidAtom("depth")
        self._name = name
        self._arguments = arguments
        self._depth = depth
        self._atom_text = None
        self.key = key_of((self,))

    @property
    def name(self):
        return self._name

    @property
    def arguments(self):
        return self._arguments

    @property
    def depth(self):
        return self._depth

    @property
    def text(self):
        if self._atom_text is None:
            self._atom_text = write_text((self,))
        return self._atom_text

    def __eq__(self, other):
        return isinstance(other, Atom) and self.key.rows == other.key.rows


class Shape:
    """A set of atoms."""

    def __init__(self, *atoms):
        for spot, atom in enumerate(atoms):
            if not isinstance(atom, Atom):
                raise InvalidShape(spot)
        self._atoms = ascending(atoms)
        self._depth = max([int(atom.depth) for atom in atoms], default=0)
        self._shape_text = None
        self.key = key_of(self._atoms)

    @classmethod
    def of_names(cls, *names):
        """The shape of the atoms with these names, without arguments."""
        atoms = [Atom(name) for name in names]
        return cls(*atoms)

    @classmethod
    def read(cls, text):
        """The shape with this text."""
        return shape_of_tree(read_tree(text))

    @property
    def atoms(self):
        return self._atoms

    @property
    def depth(self):
        return self._depth

    @property
    def text(self):
        if self._shape_text is None:
            self._shape_text = write_text(self._atoms)
        return self._shape_text

    def __len__(self):
        return len(self._atoms)

    def __bool__(self):
        return bool(self._atoms)

    def __eq__(self, other):
        return isinstance(other, Shape) and self.key.rows == other.key.rows

    def __contains__(self, x):
        return isinstance(x, Atom) and any([atom == x for atom in self._atoms])

    def __or__(self, other):
        if isinstance(other, Atom):
            return Shape(*self._atoms, other)
        if isinstance(other, Shape):
            atoms = self._atoms + other.atoms
            return Shape(*atoms)
        return NotImplemented

    def __and__(self, other):
        if not isinstance(other, Shape):
            return NotImplemented
        atoms = [atom for atom in self._atoms if atom in other]
        return Shape(*atoms)

    def __le__(self, other):
        if not isinstance(other, Shape):
            return NotImplemented
        return all([atom in other for atom in self._atoms])

    def __lt__(self, other):
        if not isinstance(other, Shape):
            return NotImplemented
        return self <= other and len(self) < len(other)


def shape_of_tree(tree):
    """The shape whose text was read as a tree."""
    atoms = []
    for name, arguments in tree:
        shapes = [shape_of_tree(argument) for argument in arguments]
        atoms.append(Atom(name, *shapes))
    return Shape(*atoms)
