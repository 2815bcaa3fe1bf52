"""Over the whole: everything that the program tells agrees (k67, k70, k71)."""

import itertools
import unittest

from makers import METHODS, Maker, random_makers
from program_makers import ProgramMaker
from shapetypes.calls import called, dead_ways, overlaps
from shapetypes.declarations import Kind, Method, Role, Way
from shapetypes.errors import Broken, InvalidAnswer, InvalidNumber, InvalidWorld, NotTaken
from shapetypes.fitting import are_alike, check_decision, decide, fits
from shapetypes.live import PledgedWorld
from shapetypes.members import Narrower, members
from shapetypes.programs import Program
from shapetypes.runs import environments, judge, run
from shapetypes.shapes import Atom, Shape
from shapetypes.tables import fit_table
from shapetypes.worlds import World, least_marks


def all_environments(world, program):
    """The environments for each line that runs perform."""
    told = {}
    for line in range(1, len(program) + 1):
        try:
            told[line] = list(environments(world, program, line))
        except InvalidNumber:
            continue
    return told


class Snapshot:
    """Answers of all functions for a world, as they can be compared."""

    def __init__(self, world, shapes, programs):
        self.table = fit_table(world, *shapes)
        self.words = [decide(world, one, other)[0] for one, other in itertools.product(shapes, repeat=2)]
        self.sizes = [len(decide(world, one, other)[1]) for one, other in itertools.product(shapes, repeat=2)]
        self.members = [members(world, shape) for shape in shapes]
        self.judged = [judge(world, program) for program in programs]
        self.environments = [all_environments(world, program) for program in programs]
        self.marks = [least_marks(world, name) for name in (*world.kinds, *world.roles)]


class Whole(unittest.TestCase):

    def makers(self):
        yield from random_makers(60, kinds=4)
        yield from random_makers(30, kinds=4, roles=1, even=True, methods=2)

    def test_fitting_agrees(self):
        for maker in self.makers():
            world, shapes = maker.world, [maker.shape() for _ in range(6)]
            rows = [line.split() for line in fit_table(world, *shapes).split("\n")[1:]]
            for (spot, one), (number, other) in itertools.product(enumerate(shapes), repeat=2):
                fitting = fits(world, one, other)
                self.assertEqual(rows[spot][number + 1], "+" if fitting else "-")
                answer = decide(world, one, other)
                self.assertEqual(answer[0], "derivation" if fitting else "use")
                self.assertEqual(check_decision(world, one, other, answer), answer[0])
                with self.assertRaises(InvalidAnswer):
                    check_decision(world, one, other, ("use" if fitting else "derivation", answer[1]))
                self.assertIs(are_alike(world, one, other), fitting and fits(world, other, one))
                if not fitting:
                    self.assertIs(world.allows(other, *answer[1]), True)
                    self.assertIs(world.allows(one, *answer[1]), False)
                else:
                    self.assertLessEqual(set(members(world, one)), set(members(world, other)))
                    for use in world.each_use(other):
                        self.assertTrue(fits(world, world.result(one, use), world.result(other, use)))

    def test_facts(self):
        for maker in self.makers():
            world, shapes = maker.world, [maker.shape() for _ in range(5)]
            for one, two, three in itertools.product(shapes, repeat=3):
                if fits(world, one, two) and fits(world, two, three):
                    self.assertTrue(fits(world, one, three))
                self.assertIs(fits(world, one | two, three), fits(world, one, three) and fits(world, two, three))
                self.assertTrue(fits(world, one & two, two) and fits(world, one, one | three))
            for shape in shapes:
                self.assertTrue(fits(world, shape, shape) and fits(world, shape, Shape.of_names("Object")))
                self.assertTrue(fits(world, Shape(), shape))
                self.assertIs(fits(world, shape, Shape()), not shape)

    def test_members_cases_and_calls_agree(self):
        for maker in self.makers():
            world, cases = maker.world, [maker.shape() for _ in range(3)]
            narrower = Narrower(world, *cases)
            rows = narrower(world.kinds)
            for spot, case in enumerate(cases):
                for kind in world.kinds:
                    self.assertIs(kind in members(world, case), fits(world, Shape.of_names(kind), case))
                self.assertLessEqual(set(rows[spot]), set(members(world, case)))
            self.assertIs(narrower.is_complete(world.kinds), rows[-1] == ())
            for kind in world.kinds:
                for name, many in METHODS:
                    found = set()
                    try:
                        for kinds in itertools.product(world.kinds, repeat=many):
                            result = world.result(Shape.of_names(kind), (name, kinds))
                            found |= set(members(world, result))
                            self.assertEqual(called(world, (kind,), name, *[(each,) for each in kinds]), members(world, result))
                    except ValueError:
                        with self.assertRaises(NotTaken):
                            called(world, (kind,), name, *[world.kinds] * many)
                        continue
                    self.assertEqual(set(called(world, (kind,), name, *[world.kinds] * many)), found)

    def test_runs_and_judgements_agree(self):
        seen = {"accepted": 0, "refused": 0}
        for maker in self.makers():
            world = maker.world
            for many in (2, 3):
                program = Program.read(ProgramMaker(maker, many).text())
                told, answer = all_environments(world, program), judge(world, program)
                seen[answer[0]] += 1
                if answer[0] == "accepted":
                    self.assertEqual(answer[1], tuple(line for line in told if not told[line]))
                else:
                    self.assertEqual(run(world, program, answer[2]), ("failed", answer[1]))
                    self.assertNotEqual(told[answer[1]], [])
                for _ in range(20):
                    choices = tuple(maker.random.choice(maker.kinds) for _ in range(30))
                    try:
                        word, *rest = run(world, program, choices)
                    except ValueError:
                        continue
                    self.assertFalse(word == "failed" and (answer[0] == "accepted" or rest[0] < answer[1]))
                for rows in told.values():
                    self.assertEqual(rows, sorted(rows, key=lambda row: tuple(kind or "" for kind in row)))
                    self.assertEqual(len(rows), len(set(rows)))
        self.assertGreater(min(seen.values()), 20, seen)

    def test_a_program_is_narrowed_as_kinds_are(self):
        for maker in self.makers():
            world, cases = maker.world, [maker.shape(1) for _ in range(2)]
            narrower, first = Narrower(world, *cases), world.kinds[0]
            text = f"new x {first}\ncall y x get\nmatch y\n" + "".join(f"case {case.text}\nnew z {first}\n" for case in cases)
            program = Program.read(text + "else\nnew w " + first + "\nend")
            try:
                kinds = called(world, (first,), "get")
            except NotTaken:
                self.assertEqual(judge(world, program), ("refused", 2, ()))
                continue
            rows = narrower(kinds)
            for line, row in zip((5, 7, 9), rows):
                self.assertEqual([environment[1] for environment in environments(world, program, line)], sorted(row))

    def test_shapes_stay_as_they_are_while_a_world_grows_and_goes_back(self):
        """Point [43], and undoing: the same answers for the same world, and for the same shapes in a larger one."""
        grown = 0
        for seed in range(60):
            maker, other = Maker(seed, kinds=3), Maker(seed + 1000, kinds=3)
            shapes = [maker.shape() for _ in range(4)]
            programs = [Program.read(ProgramMaker(maker, 3).text(5)) for _ in range(2)]
            live = PledgedWorld(*maker.world.declarations)
            snapshots = [Snapshot(live.world, shapes, programs)]
            added = [Kind("Ant", Method("get", Way(shapes[0]))), Role("Nest", Method("get", Way(Shape(Atom("Ant"))))),
                     *[part for part in other.world.declarations if part.name not in live]]
            for part in added:
                if not live.accepts(part):
                    with self.assertRaises(InvalidWorld):
                        live.add(part)
                    continue
                live.add(part)
                snapshots.append(Snapshot(live.world, shapes, programs))
                grown += 1
                before, after = snapshots[-2:]
                self.assertEqual((after.table, after.words, after.sizes), (before.table, before.words, before.sizes))
                for few, many in zip(before.members, after.members):
                    self.assertEqual(tuple(kind for kind in many if kind != part.name), few)
            for world, snapshot in zip(list(live.worlds()), snapshots):
                self.assertEqual(vars(Snapshot(world, shapes, programs)), vars(snapshot))
                self.assertEqual(vars(Snapshot(World(*world.declarations), shapes, programs)), vars(snapshot))
            while live.log:
                self.assertEqual(vars(Snapshot(live.world, shapes, programs)), vars(snapshots.pop()))
                live.undo()
            self.assertEqual(vars(Snapshot(live.world, shapes, programs)), vars(snapshots.pop()))
        self.assertGreater(grown, 60)

    def test_pledges_agree_with_fitting(self):
        for maker in self.makers():
            live = PledgedWorld(*maker.world.declarations)
            for one, other in itertools.product([maker.shape() for _ in range(4)], repeat=2):
                if fits(maker.world, one, other):
                    live.pledge(one, other)
                else:
                    with self.assertRaises(Broken):
                        live.pledge(one, other)
            for source, target in live.pledges:
                self.assertTrue(fits(live.world, source, target))

    def test_questions_change_no_answers(self):
        """The same questions in another order, and a second time, have the same answers."""
        for maker in random_makers(30, kinds=4):
            shapes = [maker.shape() for _ in range(4)]
            programs = [Program.read(ProgramMaker(maker, 3).text(5)) for _ in range(2)]
            one, other = World(*maker.world.declarations), World(*maker.world.declarations)
            for shape in shapes[::-1]:
                members(other, shape)
                fits(other, shape, shapes[0])
            for program in programs:
                all_environments(other, program)
            self.assertEqual(vars(Snapshot(one, shapes, programs)), vars(Snapshot(other, shapes, programs)))
            self.assertEqual(vars(Snapshot(one, shapes, programs)), vars(Snapshot(other, shapes, programs)))

    def test_ways_agree_with_calls(self):
        for maker in random_makers(60, kinds=4, ways=4):
            for kind in maker.kinds:
                atom, declaration = Atom(kind), maker.world[kind]
                dead = dead_ways(maker.world, atom)
                for method in declaration.methods:
                    alive = [way for number, way in enumerate(method.ways) if (method.name, number) not in dead]
                    ways = alive or method.ways[:1]
                    parts = [Kind(kind, *[Method(method.name, *ways) if part is method else part for part in declaration.methods])
                             if other.name == kind else other for other in maker.world.declarations]
                    one = Shape.of_names(kind)
                    self.assertEqual(list(World(*parts).each_use(one)), list(maker.world.each_use(one)))
                    for first, second, kinds in overlaps(maker.world, atom, method.name):
                        self.assertLess(first, second)
                        self.assertIs(maker.world.allows(one, (method.name, kinds)), True)
                        self.assertEqual(maker.world.result(one, (method.name, kinds)), method.ways[first].gives)


if __name__ == "__main__":
    unittest.main()
