"""Worlds that change, and can go back."""

from shapetypes.errors import Broken, InvalidWorld, LimitExceeded, NothingToUndo
from shapetypes.fitting import fits
from shapetypes.worlds import World

ADD = "add"
DROP = "drop"
PLEDGE = "pledge"


class LiveWorld:
    """Declarations that come and go, and the changes that have not been undone.

    There is a world for each of these changes, and the first one.
    """

    MAX_CHANGES = 40

    def __init__(self, *declarations):
        self._worlds = [World.of(declarations)]
        self._log = []

    @property
    def world(self):
        return self._worlds[-1]

    @property
    def log(self):
        return tuple(self._log)

    def __len__(self):
        return len(self._worlds[-1].declarations)

    def __contains__(self, x):
        return x in self._worlds[-1]

    def add(self, declaration):
        """Add a declaration behind the others."""
        self.exchange((ADD, declaration), self.world_with(declaration))

    def drop(self, name):
        """Take the declaration with this name away."""
        gone = self.world[name]
        left = [part for part in self.world.declarations if part.name != gone.name]
        changed = World.of(tuple(left))
        self.check_pledges(changed)
        self.exchange((DROP, name), changed)

    def accepts(self, declaration):
        """Whether any value can be added, as far as the rules of worlds tell."""
        try:
            self.world_with(declaration)
        except InvalidWorld:
            return False
        return True

    def undo(self):
        """Undo the latest change."""
        if not self._log:
            raise NothingToUndo()
        self._log.pop()
        self._worlds.pop()

    def worlds(self):
        """The worlds after none of the changes, the first one, the first two, and so on."""
        yield from self._worlds

    def world_with(self, declaration):
        """The world with one declaration more."""
        before = self.world.declarations
        return World.of((*before, declaration))

    def exchange(self, told, changed):
        """Record a change after which there is another world."""
        self.check_room()
        self.world.rest()
        self.keep_change(told, changed)

    def check_pledges(self, changed):
        """Refuse a world with a declaration less, after which a pledge is broken; a live world has none."""

    def check_room(self):
        """Refuse one change more than there may be."""
        if len(self._log) >= LiveWorld.MAX_CHANGES:
            raise LimitExceeded(LiveWorld.MAX_CHANGES)

    def keep_change(self, told, world):
        """Keep a change, and the world after it."""
        self._log.append(told)
        self._worlds.append(world)


class PledgedWorld(LiveWorld):
    """A live world with pledges, pairs of shapes of which the first one fits the second one."""

    def __init__(self, *declarations):
        super().__init__(*declarations)

    @property
    def pledges(self):
        return tuple([told[1:] for told in self.log if told[0] == PLEDGE])

    def pledge(self, source, target):
        """Add a pledge."""
        if not fits(self.world, source, target):
            raise Broken(len(self.pledges))
        self.check_room()
        self.keep_change((PLEDGE, source, target), self.world)

    def check_pledges(self, changed):
        """Refuse a world with a declaration less, of which the shapes of a pledge are not shapes any more.

        Declarations do not change which of the other shapes fit: so nothing else can break a pledge.
        """
        for number, (source, target) in enumerate(self.pledges):
            if not changed.is_plain(source) or not changed.is_plain(target):
                raise Broken(number)
