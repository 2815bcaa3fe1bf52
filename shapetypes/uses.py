"""What the atoms and shapes of a world allow, kept so that it is worked out only once."""

from shapetypes.numbering import ENTRY_SIZE, Numbering, spots_in

# About how many bytes a group takes.
GROUP_SIZE = 120
# Shapes with so many atoms share what was worked out for all but the last atom.
SHARED = 16


class Uses(Numbering):
    """The uses that atoms and shapes allow, and the results of these uses, all told by their numbers.

    What is allowed is told as groups: for each method the pairs of the places of the arguments, as bits, and of
    the result that all of them have. A place is in one group at most.
    """

    def __init__(self, plan):
        super().__init__(plan)
        self._groups = {}
        self._allowed = {}
        self._moves = {}
        self._fixed = {}

    def taken(self, template, arguments):
        """The places of the tuples of kinds that a way takes, as bits."""
        many = len(self.plan.ranked)
        places = 1
        for kinds, positions in template.wanted:
            bits = kinds
            for position in positions:
                bits = bits | self.bits[arguments[position]]
            before = spots_in(places)
            places = 0
            for spot in before:
                places = places | bits << spot * many
        return places

    def fixed_bits(self, template):
        """The bits of the atoms of a result that are the same for all arguments."""
        if template not in self._fixed:
            bits = 0
            for atom in template.fixed:
                bits = bits | 1 << self.enter_atom(atom)
            self._fixed[template] = bits
        return self._fixed[template]

    def result_number(self, template, arguments):
        """The result of a way for an atom with these arguments."""
        bits = self.fixed_bits(template)
        for position in template.spread:
            bits = bits | self.bits[arguments[position]]
        for name, parts in template.filled:
            filled = []
            for part in parts:
                filled.append(arguments[part] if isinstance(part, int) else self.enter(part))
            bits = bits | 1 << self.atom_number(name, tuple(filled))
        return self.shape_number(bits)

    def groups(self, atom):
        """The groups of what an atom allows."""
        if atom not in self._groups:
            name, arguments = self.row_of(atom)
            told = {}
            for _, method, templates in self.plan.templates(name):
                rows = self.groups_of(templates, arguments)
                if rows:
                    told[method] = rows
                    self.kept += GROUP_SIZE * len(rows)
            self._groups[atom] = told
        return self._groups[atom]

    def groups_of(self, templates, arguments):
        """The groups of a method with these ways for an atom with these arguments."""
        found = {}
        seen = 0
        for template in templates:
            fresh = self.taken(template, arguments) & ~seen
            if fresh:
                result = self.result_number(template, arguments)
                found[result] = found.get(result, 0) | fresh
                seen = seen | fresh
        return tuple([(places, result) for result, places in found.items()])

    def allowed(self, number):
        """The groups of what a shape allows; none for Never, which allows every use."""
        if number not in self._allowed:
            parts = self.parts(number)
            if not parts:
                return {}
            if len(parts) == 1:
                return self.groups(parts[0])
            cut = SHARED if len(parts) > SHARED else len(parts) - 1
            told = self.allowed(self.shape_number(sum([1 << part for part in parts[:cut]])))
            told = {method: [(places, self.bits[result]) for places, result in rows] for method, rows in told.items()}
            for part in parts[cut:]:
                others = self.groups(part)
                told = {method: self.common(rows, others[method]) for method, rows in told.items() if method in others}
            self._allowed[number] = {method: self.numbered(rows) for method, rows in told.items() if rows}
            self.kept += GROUP_SIZE * sum([len(rows) for rows in told.values()])
        return self._allowed[number]

    def common(self, rows, others):
        """What two atoms or shapes both allow; the results of the first one, and of both, are told as bits."""
        found = {}
        for places, bits in rows:
            for others_places, result in others:
                both = places & others_places
                if both:
                    total = bits | self.bits[result]
                    found[total] = found.get(total, 0) | both
        return [(places, bits) for bits, places in found.items()]

    def numbered(self, rows):
        """Groups whose results are told by their numbers instead of their bits."""
        return tuple([(places, self.shape_number(bits)) for places, bits in rows])

    def result_of(self, atom, method, spot):
        """The result of a use for an atom, or None if it is not allowed."""
        for places, result in self.groups(atom).get(method, ()):
            if places >> spot & 1:
                return result
        return None

    def move(self, number, method, spot):
        """The result of a use for a shape, or None if it is not allowed."""
        row = (number, method, spot)
        if row not in self._moves:
            bits = 0
            for part in self.parts(number):
                result = self.result_of(part, method, spot)
                if result is None:
                    return None
                bits = bits | self.bits[result]
            self._moves[row] = self.shape_number(bits)
            self.kept += ENTRY_SIZE
        return self._moves[row]

    def walk(self, number, path):
        """The result of a path for a shape, and how many uses are allowed; None if not all are."""
        for step, use in enumerate(path):
            # Never allows also the uses for which there is no method, and they have no numbers.
            if self.bits[number]:
                method, spot = self.plan.numbers_of(use)
                following = None if method is None else self.move(number, method, spot)
                if following is None:
                    return None, step
                number = following
        return number, len(path)


def first_spot(places):
    """The first one of the places that are told as bits."""
    return (places & -places).bit_length() - 1


def all_places(rows):
    """All places of groups, as bits."""
    told = 0
    for places, _ in rows:
        told = told | places
    return told
