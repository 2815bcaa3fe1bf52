"""What shapes need so that they are shapes of a world, kept so that many worlds can be asked quickly."""

KIND_SET_MARKS = ("in", "both")
# A shape with more different names is a shape of no world, and needs no facts.
MAX_NAMES = 30


class Facts:
    """What a shape needs.

    names are all names in it. numbers are the pairs of a name and the number of its arguments. fillings are
    the triples of a name, the position of an argument, and the name of an atom in this argument, or None for
    an atom with arguments.
    """

    def __init__(self, names, numbers, fillings):
        self.names = names
        self.numbers = numbers
        self.fillings = fillings

    def hold(self, plan):
        """Whether the shape is one of the world with this plan."""
        for name, many in self.numbers:
            if name not in plan.marked or len(plan.marked[name]) != many:
                return False
        for name, position, inner in self.fillings:
            if plan.marked[name][position] in KIND_SET_MARKS and not plan.is_kind(inner):
                return False
        return True


def facts_of(key):
    """What the shape with this key needs, or None if it has too many names."""
    if key.facts is None:
        names = {name: True for row in key.rows for name, _ in row}
        if len(names) > MAX_NAMES:
            return None
        numbers = {(name, len(filled)): True for row in key.rows for name, filled in row}
        key.facts = Facts(names, tuple(numbers), tuple(fillings_of(key.rows)))
    return key.facts


def fillings_of(rows):
    """The fillings of a shape, as the keys of a dict."""
    inner = [{None if deeper else word: True for word, deeper in row} for row in rows]
    used = {}
    for row in rows:
        for name, filled in row:
            used.update({(name, position, number): True for position, number in enumerate(filled)})
    return {(name, position, each): True for name, position, number in used for each in inner[number]}
