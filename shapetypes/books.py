"""Questions whether shapes fit, the pairs behind them, and what is known of these."""

from shapetypes.numbering import ENTRY_SIZE, NUMBER_SIZE
from shapetypes.uses import Uses, all_places, first_spot

# About how many bytes a book may keep before another one is begun.
MAX_KEPT = 100000000


class Region:
    """Pairs that steps do not leave; many tells how many there are."""

    def __init__(self, many):
        self.many = many


class Book(Uses):
    """All that a world has worked out so far, told by numbers.

    A question is whether one shape fits another one. It stands for the pairs of all atoms of the first
    shape with the second one, and the steps from a pair lead to questions. Of some pairs it is known
    whether the atom fits the shape, and a region in which the pair lies; of others, that too many pairs are
    reached from them. The outcome of a question is None if too many pairs are reached. What is known of
    programs is kept by their texts.
    """

    def __init__(self, plan):
        super().__init__(plan)
        self.outcomes = {}
        self.member_rows = {}
        self.good = {}
        self.regions = {}
        self.far = {}
        self.jumps = {}
        self.flows = {}
        self._questions = []
        self._question_numbers = {}
        self._question_pairs = {}
        self._pairs = []
        self._pair_numbers = {}
        self._steps = {}

    def is_full(self):
        """Whether so much is kept that another book shall be begun."""
        return self.kept > MAX_KEPT

    def size(self):
        """About how many bytes are kept."""
        return self.kept + self._seen_size

    def question(self, source, target):
        """The number of the question whether a shape fits another one."""
        row = (source, target)
        if row not in self._question_numbers:
            self._question_numbers[row] = len(self._questions)
            self._questions.append(row)
            self.kept += ENTRY_SIZE
        return self._question_numbers[row]

    def pair_number(self, part, target):
        """The number of the pair of an atom and a shape."""
        row = (part, target)
        if row not in self._pair_numbers:
            self._pair_numbers[row] = len(self._pairs)
            self._pairs.append(row)
            self.kept += ENTRY_SIZE
        return self._pair_numbers[row]

    def pair_at(self, pair):
        """The atom and the shape of a pair."""
        return self._pairs[pair]

    def pairs_of(self, question):
        """The pairs for which a question stands."""
        if question not in self._question_pairs:
            source, target = self._questions[question]
            pairs = tuple([self.pair_number(part, target) for part in self.parts(source)])
            self._question_pairs[question] = pairs
            self.kept += NUMBER_SIZE * len(pairs)
        return self._question_pairs[question]

    def steps(self, pair):
        """The questions to which steps lead from a pair, or None if the pair fails."""
        if pair not in self._steps:
            self._steps[pair] = self.steps_from(pair)
            self.kept += ENTRY_SIZE + NUMBER_SIZE * len(self._steps[pair] or ())
        return self._steps[pair]

    def steps_from(self, pair):
        """Work out the steps from a pair."""
        part, target = self._pairs[pair]
        if not self.bits[target]:
            return None
        groups = self.groups(part)
        found = {}
        for method, rows in self.allowed(target).items():
            own = groups.get(method, ())
            for places, result in rows:
                left = places
                for own_places, mine in own:
                    if places & own_places:
                        found[(mine, result)] = True
                        left = left & ~own_places
                if left:
                    return None
        # Most questions have been numbered before; asking for each number by a call would take longer.
        numbers = self._question_numbers
        fresh = [row for row in found if row not in numbers]
        for mine, result in fresh:
            self.question(mine, result)
        return tuple([numbers[row] for row in found])

    def use_between(self, pair, question):
        """The numbers of a use by which a step leads from a pair to a question."""
        part, target = self._pairs[pair]
        groups = self.groups(part)
        for method, rows in self.allowed(target).items():
            for places, result in rows:
                for own_places, mine in groups[method]:
                    if places & own_places and (mine, result) == self._questions[question]:
                        return method, first_spot(places & own_places)
        return None

    def failing_use(self, pair):
        """The numbers of a use that the shape of a pair allows and its atom does not, or None."""
        part, target = self._pairs[pair]
        groups = self.groups(part)
        for method, rows in self.allowed(target).items():
            left = all_places(rows) & ~all_places(groups.get(method, ()))
            if left:
                return method, first_spot(left)
        return None
