"""The largest worlds, shapes, paths and values: the functions of worlds end quickly for them."""

import contextlib
import itertools
import random
import time
import unittest
from unittest import mock

from samples import boxes, cycles, farm, numbered, read, stairs, way
from shapetypes.calls import called, dead_ways, overlaps
from shapetypes.declarations import Kind, Method, Role, Way
from shapetypes.errors import (
    Broken, InvalidAnswer, InvalidChoice, InvalidKinds, InvalidNumber, InvalidUse, InvalidWorld, NotTaken, ParseError,
    TooLarge, UnknownName,
)
from shapetypes.fitting import check_decision, decide, fits
from shapetypes.live import LiveWorld, PledgedWorld
from shapetypes.members import Narrower, members
from shapetypes.programs import Program
from shapetypes.runs import environments, judge, run
from shapetypes.shapes import Atom, Shape
from shapetypes.tables import fit_table
from shapetypes.worlds import World, least_marks
from values import large_shape, shared_dict, shared_list, shared_tuple

# The slowest of these tests takes about three seconds.
SECONDS = 60
NAMES = [f"K{number}" for number in range(12)]


def full_world(seed, results):
    """A world of the largest size, in which all kinds and roles have the same methods and allow all uses."""
    chance = random.Random(seed)
    every = Shape.of_names(*NAMES)

    def some(many):
        return Shape.of_names(*chance.sample(NAMES, many))

    def methods(many):
        made = []
        for number in range(many):
            ways = [Way(some(results), some(6), some(6)) for _ in range(3)]
            made.append(Method(f"m{number}", *ways, Way(some(results), every, every)))
        return made

    roles = []
    for number in range(8):
        swap = Method("swap", way(f"R{(number + 1) % 8}[U, T]", "T", "U"))
        roles.append(Role(f"R{number}", *methods(3), Method("get", way("T | U")), swap, T="both", U="both"))
    return World(*[Kind(name, *methods(5)) for name in NAMES], *roles)


def rolling_world(seed, many=10):
    """A world in which a shape of a role and a kind leads to all shapes of other roles and other kinds."""
    chance = random.Random(seed)
    names = NAMES[:many]
    every = Shape.of_names(*names)

    def methods(result):
        made = []
        for number in range(5):
            ways = [Way(result(), *[Shape.of_names(*chance.sample(names, many // 2)) for _ in range(2)]) for _ in range(3)]
            made.append(Method(f"m{number}", *ways, Way(result(), every, every)))
        return made

    def role():
        return way(f"R{chance.randrange(8)}[" + chance.choice(["T, U", "U, T"]) + "]").gives

    kinds = [Kind(name, *methods(lambda: read(chance.choice(names)))) for name in names]
    return World(*kinds, *[Role(f"R{number}", *methods(role), T="both", U="both") for number in range(8)])


class Speed(unittest.TestCase):

    def setUp(self):
        self.start = time.perf_counter()

    def tearDown(self):
        self.assertLess(time.perf_counter() - self.start, SECONDS)

    def outcomes(self, world, shapes):
        """How often one of the shapes fits another one, or does not, or too many pairs are reached."""
        told = {True: 0, False: 0, None: 0}
        for one, other in itertools.product(shapes, repeat=2):
            try:
                told[fits(world, one, other)] += 1
            except TooLarge:
                told[None] += 1
        return told

    def test_fitting_in_the_largest_worlds(self):
        kinds = [read(name) for name in NAMES]
        self.assertEqual(self.outcomes(full_world(1, 1), kinds), {True: 144, False: 0, None: 0})
        for results in (2, 3):
            self.assertEqual(self.outcomes(full_world(1, results), kinds), {True: 0, False: 0, None: 144})

    def test_asking_very_many_times(self):
        world = full_world(2, 1)
        chance = random.Random(3)
        for _ in range(2000):
            one, other = (Shape.of_names(*chance.sample(NAMES, chance.randint(1, 3))) for _ in range(2))
            self.outcomes(world, [one, other])
            shape = Shape(Atom("R1", one, other))
            self.assertTrue(world.allows(shape, ("get", ()), ("m1", ("K1", "K2"))))
            self.assertEqual(world.result(shape, ("get", ())), one | other)
            self.assertEqual(members(world, read(chance.choice(NAMES))), tuple(NAMES))

    def test_worlds_that_are_made_very_many_times(self):
        declarations = full_world(4, 2).declarations
        for _ in range(200):
            self.assertEqual(World(*declarations).kinds, tuple(NAMES))

    def test_many_derivations(self):
        world = full_world(5, 1)
        for one, other in itertools.product(NAMES, repeat=2):
            answer = decide(world, read(one), read(other))
            self.assertEqual(check_decision(world, read(one), read(other), answer), "derivation")

    def test_long_paths(self):
        world = full_world(6, 2)
        chance = random.Random(7)
        path = [(f"m{chance.randrange(5)}", tuple(chance.choices(NAMES, k=2))) for _ in range(100000)]
        for text in ("K1", " | ".join(NAMES)):
            self.assertTrue(world.allows(read(text), *path))
            self.assertTrue(world.result(read(text), *path) < Shape.of_names(*NAMES) | read("Object"))

    def test_large_shapes(self):
        world = cycles()
        shape = Shape(*numbered("Box", 3000))
        for _ in range(20):
            self.assertEqual(list(world.each_use(shape)), [("next", ())])
            self.assertEqual(world.result(shape, *[("next", ())] * 1000), shape)
            self.assertTrue(world.is_plain(shape))
            with self.assertRaises(TooLarge):
                fits(world, shape, read("A | D"))

    def test_shapes_with_very_many_parts(self):
        world = World(
            Kind("Cat"), Role("A", Method("first", way("T")), Method("swap", way("A[U, T]")), T="out", U="out"),
            Role("B", Method("get", Way(Shape(Atom("A", large_shape("Cat", 2, 5), read("T"))))), T="out"),
        )
        shape = other = read("Cat")
        for _ in range(6):
            atoms = [Atom("A", one, two) for one in (shape, other) for two in (shape, other, read("Object"))]
            shape, other = Shape(*atoms), Shape(*atoms, Atom("Cat"))
        for _ in range(200):
            self.assertTrue(world.is_plain(shape))
            self.assertEqual(list(world.each_use(shape)), [("first", ()), ("swap", ())])
            self.assertEqual(list(world.each_use(other)), [])
            self.assertTrue(world.allows(shape, *[("swap", ())] * 10))
            self.assertFalse(world.allows(shape, *[("first", ())] * 7))
        self.assertEqual(world.result(shape, ("swap", ()), ("swap", ())), shape)
        self.assertIs(fits(world, shape, shape), True)
        self.assertIs(fits(world, other, shape), False)
        self.assertEqual(decide(world, shape, shape)[0], "derivation")
        self.assertEqual(members(world, shape), ())
        large = world.result(read("B[Cat]"), ("get", ()), ("first", ()))
        self.assertEqual(large, large_shape("Cat", 2, 5))
        self.assertEqual(dead_ways(world, shape.atoms[0]), ())

    def test_values_with_very_many_parts(self):
        world, cat = farm(), read("Cat")
        narrower, program = Narrower(world, cat), Program.read("new x Cat\nnew y Fish\ncall x x eat y")
        live, pledged = LiveWorld(Kind("Cat")), PledgedWorld(Kind("Cat"))
        large = large_shape()
        for value in (shared_tuple(), shared_list(), shared_dict(), large, large.atoms[0], large.atoms):
            self.assertFalse(value in world)
            self.assertFalse(value in live or value in pledged or live.accepts(value) or program == value)
            self.assertFalse(world.is_use(value) or world.is_use(("eat", value)) or world.is_use((value, ())))
            for error, call in (
                (UnknownName, lambda: world[value]), (InvalidWorld, lambda: World(value)),
                (InvalidWorld, lambda: World(Kind("Cat"), value)), (InvalidUse, lambda: world.allows(cat, value)),
                (InvalidUse, lambda: world.result(cat, ("eat", value))), (UnknownName, lambda: least_marks(world, value)),
                (InvalidAnswer, lambda: check_decision(world, cat, cat, value)),
                (InvalidAnswer, lambda: check_decision(world, cat, cat, ("use", value))),
                (InvalidAnswer, lambda: check_decision(world, cat, cat, ("use", (value,)))),
                (InvalidAnswer, lambda: check_decision(world, cat, cat, ("derivation", value))),
                (InvalidAnswer, lambda: check_decision(world, cat, cat, ("derivation", (value,)))),
                (InvalidAnswer, lambda: check_decision(world, cat, cat, ("derivation", ((Atom("Cat"), value),)))),
                (InvalidAnswer, lambda: check_decision(world, cat, cat, (value, ()))),
                (InvalidKinds, lambda: narrower(value)), (InvalidKinds, lambda: narrower((value,))),
                (InvalidKinds, lambda: narrower.is_complete(value)), (UnknownName, lambda: narrower.case_of(value)),
                (InvalidKinds, lambda: called(world, value, "eat")), (InvalidKinds, lambda: called(world, (value,), "eat")),
                (InvalidKinds, lambda: called(world, ("Cat",), "eat", value)),
                (InvalidKinds, lambda: called(world, ("Cat",), "eat", (value,))),
                (NotTaken, lambda: called(world, ("Cat",), value, ("Fish",))),
                (UnknownName, lambda: next(iter(overlaps(world, Atom("Cat"), value)))),
                (ParseError, lambda: Program.read(value)), (InvalidChoice, lambda: run(world, program, (value,))),
                (InvalidNumber, lambda: next(iter(environments(world, program, value)))),
                (UnknownName, lambda: live.drop(value)), (UnknownName, lambda: pledged.drop(value)),
                (InvalidWorld, lambda: live.add(value)), (InvalidWorld, lambda: pledged.add(value)),
                (InvalidWorld, lambda: LiveWorld(value)), (InvalidWorld, lambda: PledgedWorld(value)),
            ):
                with self.assertRaises(error):
                    call()

    def test_large_shapes_that_are_no_shapes_of_the_world(self):
        for world in (farm(), boxes()):
            for shape in (large_shape(), large_shape("Bird", 110), Shape(*numbered("Source", 3000))):
                self.assertFalse(world.is_plain(shape) or world.is_kind_set(shape))

    def test_very_many_arguments(self):
        world, kinds = farm(), ("Cat", "Dog", "Fish")
        with self.assertRaises(NotTaken) as caught:
            called(world, kinds, "eat", *[kinds] * 5000)
        self.assertEqual(caught.exception.use, ("Cat", ("eat", ("Cat",) * 5000)))
        self.assertFalse(world.allows(read("Cat"), ("eat", kinds * 100000)))

    def test_ways_of_the_largest_world(self):
        world = full_world(8, 1)
        for name in NAMES * 10:
            self.assertLessEqual(len(dead_ways(world, Atom(name))), 20)
            self.assertGreater(len(list(overlaps(world, Atom(name), "m0"))), 20)
            self.assertEqual(len(called(world, tuple(NAMES), "m0", tuple(NAMES), tuple(NAMES))), 12)

    def test_what_is_kept_has_an_end(self):
        world = cycles()
        with mock.patch("shapetypes.books.MAX_KEPT", 100000), mock.patch("shapetypes.numbering.MAX_SEEN", 10000):
            for atoms in itertools.product(numbered("Box", 30), repeat=2):
                shape = Shape(*atoms)
                self.assertEqual(len(decide(world, shape, read("A | D"))[1]), 12 * len(shape))
                self.assertEqual(members(world, shape), tuple("ABCDEFG"))
                self.assertLess(world.book().kept, 100001)
                self.assertLess(len(world.book()._seen), 100)

    def test_the_largest_programs(self):
        """Programs with nearly 2,000 environments at nearly all lines."""
        world, start = stairs(), ["new f K2", "call b f pick", "call c f pick", "call d f pick", "new f K10", "call e f pick"]
        for rows in (["call d f pick", "call e f pick"] * 27, ["match b", "case L5", "new a K1", "else", "new a K2", "end"] * 9,
                     ["call e e pick"] * 54, ["match e", "case K11", "match d", "case Object", "end", "end"] * 9):
            program = Program.read("\n".join(start + [*rows]))
            self.assertEqual(len(program), 60)
            for _ in range(100):
                self.assertIn(judge(world, program)[0], ("accepted", "refused"))
                self.assertIn(run(world, program, ("K11",) * 60)[0], ("done", "failed"))
                for line in range(1, 61):
                    with contextlib.suppress(InvalidNumber):
                        next(iter(environments(world, program, line)), None)
            self.assertGreater(len(list(environments(world, program, 7))), 1000)

    def test_very_many_programs(self):
        world = stairs()
        for first, last in itertools.product(NAMES, NAMES[:10]):
            rows = [f"new x{number} {NAMES[number]}" for number in range(6)] + [f"call x{number} x0 pick" for number in (1, 2, 3)] * 10
            rows += [f"match x{number}\ncase {first}\nelse\ncase_\nend".replace("case_", f"new x1 {last}") for number in range(4)]
            program = Program.read("\n".join(rows))
            for _ in range(20):
                self.assertIn(judge(world, program)[0], ("accepted", "refused"))
                self.assertEqual(run(world, program, ("K5",) * 60)[0], "done")

    def test_texts_of_programs(self):
        cases = " | ".join(f"a{number}" for number in range(260))
        texts = ["match x\n" + "\n".join([f"case {cases}"] * 10) + "\nend", "\n".join(["new x Cat"] * 20000)[:20000],
                 " ".join(["new"] * 5000), "\n" * 20000, " " * 20000, "x" * 20000, "match x\ncase " + "A[" * 9000, "call x y m" + " z" * 9000]
        for text in texts * 10:
            with contextlib.suppress(ParseError):
                self.assertEqual(Program.read(text).slots, ("x",))

    def test_many_cases_that_reach_many_pairs(self):
        world = rolling_world(1)
        sets = [Shape.of_names(*names) for names in itertools.combinations(NAMES[:10], 2)]
        cases = [f"case {Shape(Atom('R1', *pair), Atom('K2')).text}" for pair in itertools.combinations(sets, 2)]
        program = Program.read("\n".join(["new x K1", "match x", *cases[::18][:55], "end"]))
        self.assertEqual(len(decide(world, read("K1"), read(cases[0][5:]))[1]), 1600)
        for _ in range(1000):
            self.assertEqual(judge(world, program)[0], "accepted")
        self.assertEqual(run(world, program, ()), ("done", ("K1",)))

    def test_live_worlds_of_the_largest_size(self):
        declarations = rolling_world(9).declarations
        added = Kind("K11", *declarations[2].methods)
        live = PledgedWorld(*declarations, Kind("K10"))
        for _ in range(20):
            for _ in range(18):
                live.pledge(read("R0[K1, K2]"), read("R3[K2, K1]"))
                live.add(added)
                self.assertFalse(live.accepts(Kind("K12")) or live.accepts(declarations[3]) or live.accepts(None))
                self.assertRaises(InvalidWorld, live.drop, "K3")
                live.undo()
                self.assertTrue(live.accepts(added))
                self.assertRaises(Broken, live.pledge, read("K1"), Shape())
                self.assertEqual(len(list(live.worlds())), len(live.log) + 1)
            while live.log:
                live.undo()

    def test_large_tables(self):
        world = full_world(10, 1)
        chance = random.Random(11)
        shapes = [Shape.of_names(*chance.sample(NAMES, chance.randint(1, 2))) for _ in range(150)]
        for _ in range(5):
            self.assertEqual(fit_table(world, *shapes).count("+"), 150 * 150)

    def test_live_worlds_keep_little(self):
        """A world that is not the current one any more forgets what was worked out, if it is much."""
        with mock.patch("shapetypes.worlds.MAX_RESTING", 20000):
            live = LiveWorld(*cycles().declarations)
            for number in range(30):
                for shape in numbered("Box", 20):
                    self.assertTrue(fits(live.world, Shape(shape), read("A | D")))
                live.add(Kind(f"K{number}")) if number < 5 else live.undo() if live.log else None
                for world in list(live.worlds())[:-1]:
                    self.assertLess(world.book().size(), 20001)

    def test_questions_of_very_many_shapes(self):
        """Answers stay the same, however much was asked before."""
        world = cycles()
        expected = decide(world, read("A"), read("A | D"))
        for number, atoms in enumerate(itertools.product(numbered("Box", 200), repeat=2)):
            shape = Shape(*atoms)
            self.assertIs(fits(world, shape, read("A | D")), True)
            if number % 1000 == 0:
                self.assertEqual(decide(world, read("A"), read("A | D")), expected)
                self.assertEqual(len(decide(world, shape, read("A | D"))[1]), 12 * len(shape))
            if number == 20000:
                break


if __name__ == "__main__":
    unittest.main()
