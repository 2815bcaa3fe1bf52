"""Runs of programs in worlds, and judgements of all runs."""

from shapetypes.errors import InvalidChoice, InvalidNumber, MissingChoice
from shapetypes.flows import flow_of
from shapetypes.jumps import jumps_of, kinds_of_call
from shapetypes.lines import CALL, END, MATCH, NEW, PERFORMED

MAX_ENVIRONMENTS = 2000
DONE = "done"
ENDED = "ended"
FAILED = "failed"
ACCEPTED = "accepted"
REFUSED = "refused"


def run(world, program, choices):
    """Perform a program with choices, and tell how the run ends."""
    jumps = jumps_of(world, program)
    if not isinstance(choices, tuple):
        raise InvalidChoice(None)
    environment = [None for _ in program.slots]
    used = 0
    number = 1
    while number <= len(program):
        line = program.lines[number - 1]
        following = number + 1
        if line.word == NEW:
            environment[line.places[0]] = line.label
        elif line.word == CALL:
            kinds = kinds_of_call(world, line, environment)
            if not kinds:
                word = FAILED if kinds is None else ENDED
                return word, number
            environment[line.places[0]] = choice_at(choices, used, kinds, number)
            used += 1
        elif line.word == MATCH:
            following = jumps[number].get(environment[line.places[0]])
            if following is None:
                return FAILED, number
        elif line.word != END:
            following = line.ending
        number = following
    return DONE, tuple(environment)


def choice_at(choices, spot, kinds, number):
    """The choice at a position, which must be one of the kinds."""
    if spot == len(choices):
        raise MissingChoice(number)
    if not isinstance(choices[spot], str) or choices[spot] not in kinds:
        raise InvalidChoice(spot)
    return choices[spot]


def judge(world, program):
    """Whether no run of a program fails: the lines that no run reaches, or the first failure."""
    flow = flow_of(world, program, MAX_ENVIRONMENTS)
    if flow.failure is not None:
        number, choices = flow.failure
        return REFUSED, number, choices
    return ACCEPTED, tuple([number for number, rows in flow.reached.items() if not rows])


def environments(world, program, line):
    """The environments that runs have when they reach a line, ascending."""
    jumps_of(world, program)
    if not is_performed(program, line):
        raise InvalidNumber(line)
    flow = flow_of(world, program, MAX_ENVIRONMENTS)
    for environment in sorted([int(environment) for environment in flow.reached[line]]):
        yield flow.layout.environment_at(environment)


def is_performed(program, value):
    """Whether any value is the number of a line that runs perform."""
    if not isinstance(value, int) or isinstance(value, bool) or not 1 <= value <= len(program):
        return False
    return program.lines[value - 1].word in PERFORMED
