"""What can come of calls of methods, and how the ways of a method stand to each other."""

from shapetypes.declarations import Way
from shapetypes.errors import NotTaken, UnknownName
from shapetypes.members import check_kinds, members_of


def called(world, receivers, name, *arguments):
    """The kinds that the result of a call can have, in the order of the world."""
    book = world.book()
    check_kinds(book.plan.ranks, receivers, "receivers")
    for spot, kinds in enumerate(arguments):
        check_kinds(book.plan.ranks, kinds, spot)
    if not receivers or not all(arguments):
        return ()
    found = {}
    for result in results_of_call(book, receivers, name, combinations_of(arguments)):
        for kind in members_of(book, result):
            found[kind] = True
    return tuple([kind for kind in book.plan.order if kind in found])


def combinations_of(arguments):
    """The tuples of kinds, one of each argument, in the given orders.

    If there are more arguments than any way takes, the first tuple tells enough: no kind allows it.
    """
    if len(arguments) > Way.MAX_PARAMETERS:
        return [tuple([kinds[0] for kinds in arguments])]
    told = [()]
    for kinds in arguments:
        told = [(*before, kind) for before in told for kind in kinds]
    return told


def results_of_call(book, receivers, name, combinations):
    """The different results of a use of receivers with all tuples of kinds; refuses the first one not taken."""
    found = {}
    for receiver in receivers:
        for kinds in combinations:
            result = result_of_use(book, receiver, (name, kinds)) if isinstance(name, str) else None
            if result is None:
                raise NotTaken((receiver, (name, kinds)))
            found[result] = True
    return list(found)


def result_of_use(book, kind, use):
    """The number of the result of a use for a kind, or None if the kind does not allow it."""
    return book.table(book.plan.ranks[kind]).get(book.plan.use_number(use))


def kinds_of_use(book, kind, use):
    """The kinds that the result of a use for a kind can have, or None if the kind does not allow it."""
    result = result_of_use(book, kind, use)
    return None if result is None else members_of(book, result)


def dead_ways(world, atom):
    """The pairs of the names and numbers of the dead ways of an atom."""
    book = world.book()
    name, arguments = book.row_of(book.enter_atom(atom))
    told = []
    for method, _, templates in book.plan.templates(name):
        seen = {}
        for number, template in enumerate(templates):
            spots = book.taken(template, arguments)
            if all([spot in seen for spot in spots]):
                told.append((method, number))
            seen.update({spot: True for spot in spots})
    return tuple(told)


def overlaps(world, atom, name):
    """The triples of two ways of a method, and the kinds at which they overlap, ascending."""
    book = world.book()
    row, arguments = book.row_of(book.enter_atom(atom))
    methods = {method: templates for method, _, templates in book.plan.templates(row)}
    if not isinstance(name, str) or name not in methods:
        raise UnknownName(name)
    rows = [book.taken(template, arguments) for template in methods[name]]
    many = len(methods[name][0].wanted)
    for first, second, spot in overlapping(rows):
        yield first, second, book.plan.kinds_at(many, spot)


def overlapping(rows):
    """The triples of the numbers of two rows and a place in both that is in no row before the first one."""
    tables = [{spot: True for spot in row} for row in rows]
    told = []
    seen = {}
    for first, row in enumerate(rows):
        fresh = [spot for spot in row if spot not in seen]
        for second in range(first + 1, len(rows)):
            told.extend([(first, second, spot) for spot in fresh if spot in tables[second]])
        seen.update(tables[first])
    return told
