"""The atoms and shapes of a world by number: equal ones have the same number."""

from shapetypes.errors import UnknownName, WrongArguments
from shapetypes.facts import KIND_SET_MARKS
from shapetypes.shapes import Atom, Shape

# About how many bytes are kept for a number, and for a number in a tuple.
ENTRY_SIZE = 400
NUMBER_SIZE = 8
# About how many bytes an atom or a row takes in the key of a shape, and how many may be kept in all keys.
KEY_SIZE = 200
MAX_SEEN = 20000000


def spots_in(bits):
    """The positions of the bits that are set, ascending."""
    told = []
    rest = bits
    while rest:
        lowest = rest & -rest
        told.append(lowest.bit_length() - 1)
        rest = rest - lowest
    return told


class Numbering:
    """Numbers for atoms and shapes.

    The kinds are the first atoms, by their ranks. A shape is the integer with the bits of its atoms: so
    that of a kind set has the bits of the ranks of its kinds. Of what is kept the bytes are counted, roughly.
    """

    def __init__(self, plan):
        self.plan = plan
        self.bits = []
        self.kept = 0
        self._atom_rows = []
        self._atom_numbers = {}
        self._atom_objects = {}
        self._shape_numbers = {}
        self._shape_objects = {}
        self._split = {}
        self._seen = {}
        self._seen_size = 0
        for kind in plan.ranked:
            self.atom_number(kind, ())

    def atom_number(self, name, arguments):
        """The number of the atom with a name and the numbers of its arguments."""
        row = (name, arguments)
        if row not in self._atom_numbers:
            self._atom_numbers[row] = len(self._atom_rows)
            self._atom_rows.append(row)
            self.kept += ENTRY_SIZE
        return self._atom_numbers[row]

    def shape_number(self, bits):
        """The number of the shape with the bits of its atoms."""
        if bits not in self._shape_numbers:
            self._shape_numbers[bits] = len(self.bits)
            self.bits.append(bits)
            self.kept += ENTRY_SIZE + bits.bit_length() // 8
        return self._shape_numbers[bits]

    def kind_shape(self, kind):
        """The number of the shape of a kind alone."""
        return self.shape_number(1 << self.plan.ranks[kind])

    def enter(self, shape):
        """The number of a shape; raises the first error of World.check_shape."""
        if shape.key in self._seen:
            return self._seen[shape.key]
        bits = 0
        for atom in shape.atoms:
            bits = bits | 1 << self.enter_atom(atom)
        number = self.shape_number(bits)
        # Only nested shapes can contain the same shape very many times.
        if shape.depth > 0:
            self._seen[shape.key] = number
            self._seen_size += KEY_SIZE * (len(shape) + len(shape.key.rows))
        return number

    def tidy(self):
        """Forget which shapes were entered, if their keys take too much; called between other calls only."""
        if self._seen_size > MAX_SEEN:
            self._seen = {}
            self._seen_size = 0

    def enter_atom(self, atom):
        """The number of an atom; raises the first error of World.check_shape for its shape."""
        name = atom.name
        if name not in self.plan.marked:
            raise UnknownName(name)
        marks = self.plan.marked[name]
        if len(marks) != len(atom.arguments):
            raise WrongArguments(name)
        arguments = []
        for mark, argument in zip(marks, atom.arguments):
            number = self.enter(argument)
            if not self.is_marked_so(number, mark):
                raise WrongArguments(name)
            arguments.append(number)
        return self.atom_number(name, tuple(arguments))

    def is_marked_so(self, number, mark):
        """Whether a shape can be the argument for a parameter with this mark."""
        return mark not in KIND_SET_MARKS or self.bits[number] >> len(self.plan.ranked) == 0

    def is_plain(self, shape):
        """Whether a shape is one of the world."""
        try:
            self.enter(shape)
        except (UnknownName, WrongArguments):
            return False
        return True

    def parts(self, number):
        """The numbers of the atoms of a shape."""
        if number not in self._split:
            self._split[number] = tuple(spots_in(self.bits[number]))
            self.kept += NUMBER_SIZE * len(self._split[number])
        return self._split[number]

    def row_of(self, atom):
        """The name and the numbers of the arguments of an atom."""
        return self._atom_rows[atom]

    def atom_of(self, number):
        """The atom with a number."""
        if number not in self._atom_objects:
            name, arguments = self._atom_rows[number]
            shapes = [self.shape_of(argument) for argument in arguments]
            self._atom_objects[number] = Atom(name, *shapes)
            self.kept += ENTRY_SIZE
        return self._atom_objects[number]

    def shape_of(self, number):
        """The shape with a number."""
        if number not in self._shape_objects:
            atoms = [self.atom_of(part) for part in self.parts(number)]
            self._shape_objects[number] = Shape(*atoms)
            self.kept += KEY_SIZE * len(atoms)
        return self._shape_objects[number]
