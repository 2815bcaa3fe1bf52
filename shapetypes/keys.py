"""Keys of shapes: equal shapes have equal rows, which are short even if the texts are not."""


class Key:
    """The rows of a shape: one for each different shape in it, the shape itself last.

    A row is the tuple of the atoms of its shape, each one a pair of its name and the numbers of the
    rows of its arguments. Rows stand in the order in which the text ends their shapes first, so that
    they are the same for all equal shapes. Keys themselves are told apart by identity. What the shape needs
    to be one of a world is found later, if at all.
    """

    def __init__(self, rows):
        self.rows = rows
        self.facts = None


def key_of(atoms):
    """The key of the shape with these atoms, which are ascending."""
    numbers = {}
    known = {}
    for atom in atoms:
        for argument in atom.arguments:
            # The same object can be an argument very many times, but its rows are added only once.
            if argument.key not in known:
                moved = []
                for row in argument.key.rows:
                    new = renumbered(row, moved)
                    if new not in numbers:
                        numbers[new] = len(numbers)
                    moved.append(numbers[new])
                known[argument.key] = moved[-1]
    own = []
    for atom in atoms:
        own.append((atom.name, tuple([known[argument.key] for argument in atom.arguments])))
    return Key((*numbers, tuple(own)))


def renumbered(row, moved):
    """A row in which each number is replaced by where the row with this number has moved to."""
    return tuple([(name, tuple([moved[number] for number in numbers])) for name, numbers in row])
