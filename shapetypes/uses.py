"""What the atoms and shapes of a world allow, kept so that it is worked out only once."""

from shapetypes.numbering import ENTRY_SIZE, Numbering

# About how many bytes the result of a use takes in a table.
USE_SIZE = 60
# Shapes with so many atoms share what was worked out for all but the last atom.
SHARED = 16


class Uses(Numbering):
    """The uses that atoms and shapes allow, and the results of these uses, all told by their numbers."""

    def __init__(self, plan):
        super().__init__(plan)
        self._tables = {}
        self._allowed = {}
        self._moves = {}
        self._fixed = {}

    def taken(self, template, arguments):
        """The places of the tuples of kinds that a way takes, ascending."""
        ranks = range(len(self.plan.ranked))
        spots = [0]
        for kinds, positions in template.wanted:
            bits = kinds
            for position in positions:
                bits = bits | self.bits[arguments[position]]
            spots = [spot * len(ranks) + rank for spot in spots for rank in ranks if bits >> rank & 1]
        return spots

    def fixed_bits(self, template):
        """The bits of the atoms of a result that are the same for all arguments."""
        if template not in self._fixed:
            bits = 0
            for atom in template.fixed:
                bits = bits | 1 << self.enter_atom(atom)
            self._fixed[template] = bits
        return self._fixed[template]

    def result_number(self, template, arguments):
        """The result of a way for an atom with these arguments."""
        bits = self.fixed_bits(template)
        for position in template.spread:
            bits = bits | self.bits[arguments[position]]
        for name, parts in template.filled:
            filled = []
            for part in parts:
                filled.append(arguments[part] if isinstance(part, int) else self.enter(part))
            bits = bits | 1 << self.atom_number(name, tuple(filled))
        return self.shape_number(bits)

    def table(self, atom):
        """The results of the uses that an atom allows, by these uses."""
        if atom not in self._tables:
            name, arguments = self.row_of(atom)
            told = {}
            for _, first, templates in self.plan.templates(name):
                for template in templates:
                    uses = [first + spot for spot in self.taken(template, arguments)]
                    free = [use for use in uses if use not in told]
                    if free:
                        result = self.result_number(template, arguments)
                        told.update({use: result for use in free})
            self._tables[atom] = told
            self.kept += USE_SIZE * len(told)
        return self._tables[atom]

    def allowed(self, number):
        """The results of the uses that a shape allows, by these uses; none for Never, which allows every use."""
        if number not in self._allowed:
            parts = self.parts(number)
            if not parts:
                return {}
            if len(parts) == 1:
                return self.table(parts[0])
            cut = SHARED if len(parts) > SHARED else len(parts) - 1
            told = self.allowed(self.shape_number(sum([1 << part for part in parts[:cut]])))
            told = {use: self.bits[result] for use, result in told.items()}
            for part in parts[cut:]:
                table = self.table(part)
                told = {use: bits | self.bits[table[use]] for use, bits in told.items() if use in table}
            self._allowed[number] = {use: self.shape_number(bits) for use, bits in told.items()}
            self.kept += USE_SIZE * len(told)
        return self._allowed[number]

    def move(self, number, use):
        """The result of a use for a shape, or None if it is not allowed."""
        if (number, use) not in self._moves:
            bits = 0
            for part in self.parts(number):
                table = self.table(part)
                if use not in table:
                    return None
                bits = bits | self.bits[table[use]]
            self._moves[(number, use)] = self.shape_number(bits)
            self.kept += ENTRY_SIZE
        return self._moves[(number, use)]

    def walk(self, number, path):
        """The result of a path for a shape, and how many uses are allowed; None if not all are."""
        for spot, use in enumerate(path):
            # Never allows also the uses for which there is no method, and they have no numbers.
            if self.bits[number]:
                told = self.plan.use_number(use)
                following = None if told is None else self.move(number, told)
                if following is None:
                    return None, spot
                number = following
        return number, len(path)
