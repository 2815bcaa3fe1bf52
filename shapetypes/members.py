"""The kinds that are members of shapes, and kinds sorted by cases."""

from shapetypes.errors import InvalidKinds, UnknownName
from shapetypes.fitting import is_fitting


def members(world, shape):
    """The kinds whose shapes fit a shape, in the order of the world."""
    book = world.book()
    return members_of(book, book.enter(shape))


def members_of(book, number):
    """The members of a shape that is told by number."""
    if number not in book.member_rows:
        found = []
        for kind in book.plan.order:
            if is_fitting(book, book.kind_shape(kind), number):
                found.append(kind)
        book.member_rows[number] = tuple(found)
    return book.member_rows[number]


def check_kinds(known, kinds, part):
    """Refuse any value that is not a tuple of different names of known kinds."""
    if not isinstance(kinds, tuple):
        raise InvalidKinds(part)
    seen = {}
    for spot, kind in enumerate(kinds):
        if not isinstance(kind, str) or kind not in known or kind in seen:
            raise InvalidKinds(part, spot)
        seen[kind] = True


def first_rows(kinds, rows):
    """For each kind the number of the first row in which it stands, or None."""
    told = {kind: None for kind in kinds}
    for number, row in enumerate(rows):
        for kind in row:
            if told[kind] is None:
                told[kind] = number
    return told


class Narrower:
    """Sorts kinds by cases: each one goes to the first case of which it is a member."""

    def __init__(self, world, *cases):
        self._cases = cases
        self._goes = first_rows(world.kinds, [members(world, case) for case in cases])

    @property
    def cases(self):
        return self._cases

    def __call__(self, kinds):
        """The kinds that go to each case, and behind them those that go to none."""
        check_kinds(self._goes, kinds, "kinds")
        rows = [[] for _ in range(len(self._cases) + 1)]
        for kind in kinds:
            number = self._goes[kind]
            rows[len(self._cases) if number is None else number].append(kind)
        return tuple([tuple(row) for row in rows])

    def is_complete(self, kinds):
        """Whether all kinds go to a case."""
        check_kinds(self._goes, kinds, "kinds")
        return all([self._goes[kind] is not None for kind in kinds])

    def case_of(self, kind):
        """The number of the case to which a kind goes, or None."""
        if not isinstance(kind, str) or kind not in self._goes:
            raise UnknownName(kind)
        return self._goes[kind]
