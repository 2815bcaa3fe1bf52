"""Where runs of programs go in a world: at matches by the kinds of variables, and at calls by choices."""

from shapetypes.calls import kinds_of_use
from shapetypes.errors import UnknownName
from shapetypes.lines import CASE, MATCH, NEW
from shapetypes.members import first_rows, members
from shapetypes.numbering import ENTRY_SIZE


def jumps_of(world, program):
    """For each match of a program the lines to which kinds go; refuses the first line that is not right."""
    book = world.book()
    if program.text in book.jumps:
        return book.jumps[program.text]
    found = jumps_between(world, program.lines)
    # Until now another book can have been begun.
    book = world.book()
    book.jumps[program.text] = found
    book.kept += ENTRY_SIZE * (1 + len(program))
    return found


def jumps_between(world, lines):
    """For each match the lines to which kinds go; a kind that goes to none is not told."""
    rows = {}
    for number, line in enumerate(lines, start=1):
        if line.word == NEW and line.label not in world.kinds:
            raise UnknownName(line.label)
        if line.word == CASE:
            rows[number] = members(world, line.shape)
    told = {}
    for number, line in enumerate(lines, start=1):
        if line.word == MATCH:
            told[number] = jumps_at(world, line, [rows[goal] for goal in line.goals])
    return told


def jumps_at(world, line, rows):
    """The lines to which kinds go at a match whose cases have these rows of members."""
    told = {}
    for kind, spot in first_rows(world.kinds, rows).items():
        goal = line.other if spot is None else line.goals[spot]
        if goal is not None:
            told[kind] = goal + 1
    return told


def kinds_of_call(world, line, environment):
    """The kinds that a call can give to its variable in an environment, or None if it fails."""
    receiver, *others = [environment[place] for place in line.places[1:]]
    if receiver is None or None in others:
        return None
    return kinds_of_use(world.book(), receiver, (line.label, tuple(others)))
