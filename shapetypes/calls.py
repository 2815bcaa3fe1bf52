"""What can come of calls of methods, and how the ways of a method stand to each other."""

from shapetypes.declarations import Way
from shapetypes.errors import NotTaken, UnknownName
from shapetypes.members import check_kinds, members_of
from shapetypes.numbering import spots_in


def called(world, receivers, name, *arguments):
    """The kinds that the result of a call can have, in the order of the world."""
    book = world.book()
    check_kinds(book.plan.ranks, receivers, "receivers")
    for spot, kinds in enumerate(arguments):
        check_kinds(book.plan.ranks, kinds, spot)
    if not receivers or not all(arguments):
        return ()
    found = {}
    for result in results_of_call(book, receivers, name, combinations_of(arguments)):
        for kind in members_of(book, result):
            found[kind] = True
    return tuple([kind for kind in book.plan.order if kind in found])


def combinations_of(arguments):
    """The tuples of kinds, one of each argument, in the given orders.

    If there are more arguments than any way takes, the first tuple tells enough: no kind allows it.
    """
    if len(arguments) > Way.MAX_PARAMETERS:
        return [tuple([kinds[0] for kinds in arguments])]
    told = [()]
    for kinds in arguments:
        told = [(*before, kind) for before in told for kind in kinds]
    return told


def results_of_call(book, receivers, name, combinations):
    """The different results of a use of receivers with all tuples of kinds; refuses the first one not taken."""
    found = {}
    for receiver in receivers:
        for kinds in combinations:
            result = result_of_use(book, receiver, (name, kinds)) if isinstance(name, str) else None
            if result is None:
                raise NotTaken((receiver, (name, kinds)))
            found[result] = True
    return list(found)


def result_of_use(book, kind, use):
    """The number of the result of a use for a kind, or None if the kind does not allow it."""
    method, spot = book.plan.numbers_of(use)
    return None if method is None else book.result_of(book.plan.ranks[kind], method, spot)


def kinds_of_use(book, kind, use):
    """The kinds that the result of a use for a kind can have, or None if the kind does not allow it."""
    result = result_of_use(book, kind, use)
    return None if result is None else members_of(book, result)


def dead_ways(world, atom):
    """The pairs of the names and numbers of the dead ways of an atom."""
    book = world.book()
    name, arguments = book.row_of(book.enter_atom(atom))
    told = []
    for method, _, templates in book.plan.templates(name):
        seen = 0
        for number, template in enumerate(templates):
            places = book.taken(template, arguments)
            if not places & ~seen:
                told.append((method, number))
            seen = seen | places
    return tuple(told)


def overlaps(world, atom, name):
    """The triples of two ways of a method, and the kinds at which they overlap, ascending."""
    book = world.book()
    row, arguments = book.row_of(book.enter_atom(atom))
    methods = {method: templates for method, _, templates in book.plan.templates(row)}
    if not isinstance(name, str) or name not in methods:
        raise UnknownName(name)
    rows = [book.taken(template, arguments) for template in methods[name]]
    many = len(methods[name][0].wanted)
    for first, second, spot in overlapping(rows):
        yield first, second, book.plan.kinds_at(many, spot)


def overlapping(rows):
    """The triples of the numbers of two rows and a place in both that is in no row before the first one.

    The places in a row are told as bits.
    """
    told = []
    seen = 0
    for first, places in enumerate(rows):
        for second in range(first + 1, len(rows)):
            both = places & rows[second] & ~seen
            told.extend([(first, second, spot) for spot in spots_in(both)])
        seen = seen | places
    return told
