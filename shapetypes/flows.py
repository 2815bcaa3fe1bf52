"""Which environments reach the lines of a program in a world."""

from shapetypes.errors import TooLarge
from shapetypes.jumps import jumps_of, kinds_of_call
from shapetypes.lines import CALL, END, MATCH, NEW, PERFORMED
from shapetypes.numbering import ENTRY_SIZE

# An environment has four bits for each variable, which are enough for twelve kinds.
WIDTH = 4
VALUE = 15
# About how many bytes an environment takes.
ENVIRONMENT_SIZE = 40


class Layout:
    """Environments as numbers.

    The bits of the first variable are the highest ones: they are 0 if it has no value, and otherwise 1 more
    than the rank of its kind. So environments are ascending if their numbers are.
    """

    def __init__(self, world, many):
        ranked = sorted([str(kind) for kind in world.kinds])
        self.words = (None, *ranked)
        self.codes = {kind: value for value, kind in enumerate(self.words)}
        self.shifts = [WIDTH * (many - 1 - place) for place in range(many)]

    def mask_of(self, places):
        """The bits of the variables at these places."""
        told = 0
        for place in places:
            told = told | VALUE << self.shifts[place]
        return told

    def environment_at(self, number):
        """The environment with a number: the kinds of all variables."""
        return tuple([self.words[number >> shift & VALUE] for shift in self.shifts])


class Flow:
    """The environments that reach the lines of a program, and what comes of them.

    reached tells the numbers of the environments for each line that runs perform. failure is the first line
    at which a run fails, with the choices of such a run, or None. If a limit is exceeded, only this is told.
    """

    def __init__(self, layout, reached, failure, limit):
        self.layout = layout
        self.reached = reached
        self.failure = failure
        self.limit = limit


class Follower:
    """Follows all runs of a program at once, line by line.

    For each line, and behind the last one, there is a dict from the numbers of the environments that reach it
    to the trails of runs: a trail is None, or a pair of the trail before the last choice, and this choice.
    """

    def __init__(self, world, program, limit):
        self.layout = Layout(world, len(program.slots))
        self.failure = None
        self._world = world
        self._program = program
        self._limit = limit
        self._rows = [{} for _ in range(len(program) + 2)]

    def follow(self, jumps):
        """The numbers of the environments for each line that runs perform."""
        self._rows[1] = {0: None}
        reached = {}
        for number, line in enumerate(self._program.lines, start=1):
            rows = self._rows[number]
            if line.word in PERFORMED:
                self.check_many(rows)
                reached[number] = tuple(rows)
            if line.word == NEW:
                self.pass_on(number + 1, self.after_new(line, rows))
            elif line.word == CALL:
                self.pass_on(number + 1, self.after_call(number, line, rows))
            elif line.word == MATCH:
                self.scatter(number, line, rows, jumps[number])
            else:
                self.pass_on(number + 1 if line.word == END else line.ending, rows)
            # What lies behind is not needed any more.
            self._rows[number] = {}
        self.check_many(self._rows[len(self._program) + 1])
        return reached

    def check_many(self, rows):
        """Refuse more environments than the limit allows."""
        if len(rows) > self._limit:
            raise TooLarge(self._limit)

    def pass_on(self, number, rows):
        """Let environments reach a line."""
        goal = self._rows[number]
        for environment, trail in rows.items():
            goal.setdefault(environment, trail)

    def after_new(self, line, rows):
        """The environments behind a line "new"."""
        shift = self.layout.shifts[line.places[0]]
        value = self.layout.codes[line.label] << shift
        kept = ~(VALUE << shift)
        return {environment & kept | value: trail for environment, trail in rows.items()}

    def after_call(self, number, line, rows):
        """The environments behind a call."""
        asked = self.layout.mask_of(line.places[1:])
        shift = self.layout.shifts[line.places[0]]
        kept = ~(VALUE << shift)
        known = {}
        told = {}
        for environment, trail in rows.items():
            # Many environments have the same kinds where the call looks.
            given = environment & asked
            if given not in known:
                known[given] = self.values_of_call(line, environment)
            if known[given] is None:
                self.fail(number, trail)
                continue
            rest = environment & kept
            for value in known[given]:
                fresh = rest | value << shift
                if fresh not in told:
                    told[fresh] = (trail, value)
        return told

    def values_of_call(self, line, environment):
        """The values that a call can give to its variable in an environment, or None if it fails."""
        kinds = kinds_of_call(self._world, line, self.layout.environment_at(environment))
        return None if kinds is None else [self.layout.codes[kind] for kind in kinds]

    def scatter(self, number, line, rows, goals):
        """Let the environments that reach a match reach the blocks to which kinds go."""
        shift = self.layout.shifts[line.places[0]]
        told = {}
        for environment, trail in rows.items():
            kind = self.layout.words[environment >> shift & VALUE]
            if kind in goals:
                told.setdefault(goals[kind], {})[environment] = trail
            else:
                self.fail(number, trail)
        for goal in told:
            self.pass_on(goal, told[goal])

    def fail(self, number, trail):
        """Keep the first line at which a run fails, with the choices of this run."""
        if self.failure is None:
            choices = []
            while trail is not None:
                before, value = trail
                choices.append(self.layout.words[value])
                trail = before
            self.failure = (number, tuple(choices[::-1]))


def flow_of(world, program, limit):
    """The flow of a program in a world; refuses a program that exceeds a limit."""
    jumps = jumps_of(world, program)
    book = world.book()
    if program.text in book.flows:
        flow = book.flows[program.text]
    else:
        flow = followed(world, program, jumps, limit)
        # Until now another book can have been begun.
        book = world.book()
        book.flows[program.text] = flow
        book.kept += ENTRY_SIZE + ENVIRONMENT_SIZE * sum([len(flow.reached[number]) for number in flow.reached])
    if flow.limit is not None:
        raise TooLarge(flow.limit)
    return flow


def followed(world, program, jumps, limit):
    """The flow of a program, worked out; if a limit is exceeded, what was found until then is of no use."""
    follower = Follower(world, program, limit)
    try:
        reached = follower.follow(jumps)
    except TooLarge as error:
        return Flow(follower.layout, {}, None, error.limit)
    return Flow(follower.layout, reached, follower.failure, None)
