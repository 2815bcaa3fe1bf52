"""Arguments by position and by the names of the interface, in any order (k72)."""

import itertools
import unittest

from samples import farm, read
from shapetypes import errors
from shapetypes.calls import called, dead_ways, overlaps
from shapetypes.declarations import Kind
from shapetypes.live import LiveWorld, PledgedWorld
from shapetypes.members import Narrower, members
from shapetypes.programs import Program
from shapetypes.runs import environments, judge, run
from shapetypes.shapes import Atom
from shapetypes.tables import fit_table

PROGRAM = Program.read("new x Cat\nnew y Fish\ncall x x eat y\nmatch x\ncase Eater\nend")


def each_way(call, given):
    """What a call returns with its arguments by position, by name in any order, and first by position, then by name."""
    for many in range(len(given) + 1):
        first = list(given.values())[:many]
        for row in itertools.permutations(list(given.items())[many:]):
            yield call(*first, **dict(row))


class Arguments(unittest.TestCase):

    def same(self, expected, call, **given):
        ways = list(each_way(call, given))
        self.assertGreaterEqual(len(ways), 2)
        for told in ways:
            self.assertEqual(told, expected)

    def test_functions(self):
        world = farm()
        self.same(("Cat", "Dog"), members, world=world, shape=read("Eater"))
        self.same((), dead_ways, world=world, atom=Atom("Dog"))
        self.same([(0, 1, ("Fish",))], lambda *given, **more: list(overlaps(*given, **more)), world=world, atom=Atom("Dog"), name="eat")
        self.same(("done", ("Dog", "Fish")), run, world=world, program=PROGRAM, choices=("Dog",))
        self.same(("accepted", ()), judge, world=world, program=PROGRAM)
        self.same([("Cat", None)], lambda *given, **more: list(environments(*given, **more)), world=world, program=PROGRAM, line=2)
        self.same("   ", fit_table, world=world)
        self.same((), called, world=world, receivers=(), name="eat")
        with self.assertRaises(errors.NotTaken):
            called(world=world, receivers=("Cat",), name="eat")
        with self.assertRaises(TypeError):
            fit_table(world, shapes=(read("Cat"),))

    def test_programs(self):
        self.same(PROGRAM, Program.read, text=PROGRAM.text)

    def test_narrowers(self):
        narrower = Narrower(farm(), read("Eater"))
        self.same((("Cat",), ("Fish",)), narrower, kinds=("Fish", "Cat"))
        self.same(False, narrower.is_complete, kinds=("Fish", "Cat"))
        self.same(0, narrower.case_of, kind="Cat")
        self.same((), lambda *given, **more: Narrower(*given, **more).cases, world=farm())

    def test_live_worlds(self):
        live = PledgedWorld(*farm().declarations)
        bird = Kind("Bird")
        self.same(True, live.accepts, declaration=bird)
        for made in (LiveWorld, PledgedWorld):
            live = made()
            live.add(bird)
            live.drop(name="Bird")
            live.add(declaration=bird)
            live.drop("Bird")
            self.assertEqual(live.log, (("add", bird), ("drop", "Bird")) * 2)
        live = PledgedWorld(*farm().declarations)
        source, target = read("Cat"), read("Eater")
        self.same(None, live.pledge, source=source, target=target)
        self.assertEqual(live.pledges, ((source, target),) * 4)

    def test_exceptions(self):
        for name, given in (
            ("InvalidKinds", {"part": "kinds", "spot": 3}), ("NotTaken", {"use": ("Cat", ("eat", ()))}), ("InvalidChoice", {"spot": 1}),
            ("MissingChoice", {"line": 2}), ("InvalidNumber", {"value": "x"}), ("LimitExceeded", {"limit": 40}), ("Broken", {"number": 4}),
            ("ParseError", {"line": 1, "word": 2}),
        ):
            self.same(given, lambda *row, **more: vars(getattr(errors, name)(*row, **more)), **given)
        self.assertEqual(vars(errors.NothingToUndo()), {})


if __name__ == "__main__":
    unittest.main()
