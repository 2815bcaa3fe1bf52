"""Live worlds (k60, k61) and pledged worlds (k62, k63)."""

import itertools
import random
import unittest

from makers import random_makers
from oracle import Oracle
from samples import boxes, cycles, farm, numbered, read, way
from shapetypes.declarations import Kind, Method, Role, Way
from shapetypes.errors import (
    Broken, InvalidWorld, LimitExceeded, NothingToUndo, ShapetypesError, TooLarge, UnknownName, WrongArguments,
)
from shapetypes.fitting import fits
from shapetypes.live import LiveWorld, PledgedWorld
from shapetypes.shapes import Atom, Shape
from shapetypes.worlds import World
from values import large_shape, shared_tuple, values_besides

EATER = Role("Eater", Method("eat", way("Eater", "Fish")))
CAT = Kind("Cat", Method("eat", way("Cat", "Fish")))
FISH = Kind("Fish")


def told(call):
    """The class and the fields of the exception that a call raises, or what it returns."""
    try:
        return call()
    except ShapetypesError as error:
        return type(error), *vars(error).values()


def state(live):
    """All that can be read of a live world."""
    worlds = list(live.worlds())
    return (live.world, live.log, len(live), getattr(live, "pledges", None), worlds,
            [world.declarations for world in worlds])


class LiveTests(unittest.TestCase):

    def same(self, one, other):
        """Whether two states are the same; declarations and worlds are equal only to themselves."""
        self.assertEqual([repr(part) for part in one], [repr(part) for part in other])
        self.assertEqual(one, other)

    def refused(self, expected, live, *calls):
        """Whether calls raise the exception, and change nothing."""
        before = state(live)
        for call in calls:
            self.assertEqual(told(call), expected)
            self.same(state(live), before)


class Live(LiveTests):

    def test_the_example(self):
        live = PledgedWorld(Kind("Fish"))
        for call in (
            lambda: live.add(EATER), lambda: live.add(CAT), lambda: live.pledge(read("Cat"), read("Eater")), live.undo,
            lambda: live.drop("Cat"),
        ):
            self.assertIsNone(call())
        self.assertEqual((live.world.kinds, "Eater" in live, len(live), live.accepts(Kind("Fish"))), (("Fish",), True, 2, False))
        self.assertEqual(live.log, (("add", EATER), ("add", CAT), ("drop", "Cat")))

    def test_sizes_and_classes(self):
        for made in (LiveWorld, PledgedWorld):
            self.assertEqual((made.MAX_CHANGES, made().MAX_CHANGES), (40, 40))
            self.assertIsInstance(made(), LiveWorld)
        self.assertNotIsInstance(LiveWorld(), PledgedWorld)
        self.assertFalse(hasattr(LiveWorld(), "pledges") or hasattr(LiveWorld(), "pledge"))

    def test_nothing_has_changed_yet(self):
        for made in (LiveWorld, PledgedWorld):
            for given in ((), farm().declarations, boxes().declarations):
                live = made(*given)
                self.assertIs(type(live.world), World)
                self.assertEqual((live.world.declarations, live.log, len(live)), (given, (), len(given)))
                self.assertEqual([world.declarations for world in live.worlds()], [given])
                self.refused((NothingToUndo,), live, live.undo, live.undo)
                if made is PledgedWorld:
                    self.assertEqual(live.pledges, ())

    def test_properties_are_not_assigned(self):
        live = PledgedWorld(FISH)
        for name in ("world", "log", "pledges"):
            with self.assertRaises(AttributeError):
                setattr(live, name, ())

    def test_a_live_world_without_declarations(self):
        live = LiveWorld()
        self.assertEqual((live.world.kinds, live.world.roles, "Object" in live, "Fish" in live), ((), (), True, False))
        self.refused((UnknownName, "Fish"), live, lambda: live.drop("Fish"))
        live.add(FISH)
        live.drop("Fish")
        self.assertEqual((live.log, len(live), live.world.kinds), ((("add", FISH), ("drop", "Fish")), 0, ()))
        self.assertEqual([world.kinds for world in live.worlds()], [(), ("Fish",), ()])
        live.undo()
        live.undo()
        self.refused((NothingToUndo,), live, live.undo)

    def test_first_declarations_are_checked(self):
        for made in (LiveWorld, PledgedWorld):
            for given, expected in (
                ((FISH, FISH), ("name", "Fish")), ((FISH, "Fish"), ("declaration", 1)), ((EATER,), ("parameter", ("Eater", "eat", 0, 0))),
                ((None, FISH, FISH), ("declaration", 0)), (tuple(Kind(f"K{number}") for number in range(13)), ("size", None)),
            ):
                self.assertEqual(told(lambda: made(*given)), (InvalidWorld, *expected))
            for value in values_besides(World(), LiveWorld(), (FISH,), [FISH], large_shape()):
                if isinstance(value, (Kind, Role)):
                    continue
                self.assertEqual(told(lambda: made(FISH, value)), (InvalidWorld, "declaration", 1))

    def test_the_order_of_declarations(self):
        live = LiveWorld(FISH, CAT)
        live.add(EATER)
        live.drop("Cat")
        live.add(CAT)
        self.assertEqual(live.world.declarations, (FISH, EATER, CAT))
        live.drop("Eater")
        live.undo()
        self.assertEqual(live.world.declarations, (FISH, EATER, CAT))
        live.undo()
        live.undo()
        self.assertEqual(live.world.declarations, (FISH, CAT, EATER))

    def test_names_in_a_live_world(self):
        live = LiveWorld(FISH, EATER)
        self.assertTrue("Fish" in live and "Eater" in live and "Object" in live and "Cat" not in live)
        for value in values_besides("Cat", "fish", FISH, read("Fish"), Atom("Fish"), ("Fish",)):
            self.assertIs(value in live, False)
            self.assertIs(value not in live, True)

    def test_no_other_operators(self):
        live = LiveWorld(FISH)
        for operate in (lambda a, b: a < b, lambda a, b: a <= b, lambda a, b: a + b, lambda a, b: a | b, lambda a, b: a & b):
            for value in (live, LiveWorld(FISH), "Fish", None):
                with self.assertRaises(TypeError):
                    operate(live, value)
        for value in values_besides(live.world, PledgedWorld()):
            self.assertIs(live == value, False)
            self.assertIs(live != value, True)

    def test_adding_what_is_refused(self):
        for live in (LiveWorld(FISH, EATER, Role("Box", T="out")), PledgedWorld(FISH, EATER, Role("Box", T="out"))):
            for given, expected in (
                (Kind("Fish"), ("name", "Fish")), (Role("Fish"), ("name", "Fish")), (Kind("T"), ("name", "T")),
                (Role("Cell", Fish="in"), ("name", "Fish")), (Role("Cell", Cell="in"), ("name", "Cell")),
                (Kind("Dog", Method("eat", way("Dog", "Bird"))), ("parameter", ("Dog", "eat", 0, 0))),
                (Kind("Dog", Method("eat", way("Bird", "Fish"))), ("result", ("Dog", "eat", 0))),
                (Kind("Dog", Method("eat", way("Box", "Fish"))), ("result", ("Dog", "eat", 0))),
                (Role("Cell", Method("get", way("Fish"), way("T")), T="in"), ("mark", ("Cell", "get", 1, "result"))),
            ):
                self.refused((InvalidWorld, *expected), live, lambda: live.add(given), lambda: live.add(declaration=given))
                self.assertIs(live.accepts(given), False)

    def test_values_of_other_kinds(self):
        for live in (LiveWorld(FISH, CAT), PledgedWorld(FISH, CAT)):
            live.add(EATER)
            for value in values_besides("Fish", read("Fish"), Atom("Fish"), live, live.world, [CAT], (CAT,), large_shape(), shared_tuple()):
                if not isinstance(value, (Kind, Role)):
                    self.refused((InvalidWorld, "declaration", 3), live, lambda: live.add(value))
                    self.assertIs(live.accepts(value), False)
                if value != "Fish":
                    with self.assertRaises(UnknownName) as caught:
                        live.drop(value)
                    self.assertIs(caught.exception.word, value)
            self.assertEqual((len(live.log), len(live)), (1, 3))

    def test_dropping(self):
        live = LiveWorld(FISH, CAT, EATER, Role("Box", Method("get", way("Eater"))))
        for name, expected in (
            ("Fish", ("parameter", ("Cat", "eat", 0, 0))), ("Eater", ("result", ("Box", "get", 0))),
        ):
            self.refused((InvalidWorld, *expected), live, lambda: live.drop(name), lambda: live.drop(name=name))
        self.refused((UnknownName, "Object"), live, lambda: live.drop("Object"))
        self.refused((UnknownName, "T"), live, lambda: live.drop("T"))
        for name in ("Box", "Eater", "Cat", "Fish"):
            self.assertIsNone(live.drop(name))
            self.assertFalse(name in live)
        self.assertEqual((len(live), live.log), (0, tuple(("drop", name) for name in ("Box", "Eater", "Cat", "Fish"))))

    def test_a_kind_that_is_dropped_can_come_back_otherwise(self):
        live = LiveWorld(FISH, CAT)
        self.assertFalse(fits(live.world, read("Fish"), read("Cat")))
        live.drop("Cat")
        live.add(Kind("Cat"))
        self.assertTrue(fits(live.world, read("Fish"), read("Cat")))
        live.undo()
        live.undo()
        self.assertFalse(fits(live.world, read("Fish"), read("Cat")))
        self.assertEqual(live.world.declarations, (FISH, CAT))

    def test_a_name_can_become_a_parameter(self):
        live = LiveWorld(Kind("T"), FISH)
        given = Role("Box", Method("get", way("T")), T="out")
        self.assertFalse(live.accepts(given))
        live.drop("T")
        self.assertTrue(live.accepts(given))
        live.add(given)
        self.refused((InvalidWorld, "name", "T"), live, lambda: live.add(Kind("T")))

    def test_accepts(self):
        live = LiveWorld(FISH)
        before = state(live)
        self.assertIs(live.accepts(CAT), True)
        self.assertIs(live.accepts(declaration=EATER), True)
        self.assertIs(live.accepts(Kind("Fish")), False)
        self.assertIs(live.accepts(Kind("Dog", Method("eat", way("Dog", "Cat")))), False)
        self.same(state(live), before)

    def test_the_largest_number_of_declarations(self):
        live = LiveWorld()
        for number in range(12):
            live.add(Kind(f"K{number}"))
        for number in range(8):
            live.add(Role(f"R{number}"))
        self.assertEqual(len(live), 20)
        for given in (Kind("K12"), Role("R8")):
            self.assertIs(live.accepts(given), False)
            self.refused((InvalidWorld, "size", None), live, lambda: live.add(given))

    def test_what_is_returned_is_new(self):
        live = PledgedWorld(FISH, CAT)
        live.pledge(read("Cat"), read("Fish"))
        for value in (live.log, live.pledges):
            self.assertIs(type(value), tuple)
        self.assertEqual([type(part) for part in (*live.log, *live.pledges)], [tuple, tuple])
        worlds = list(live.worlds())
        worlds.clear()
        self.assertEqual(len(list(live.worlds())), 2)

    def test_forty_changes(self):
        for made in (LiveWorld, PledgedWorld):
            live = made(FISH)
            for number in range(20):
                live.add(CAT)
                live.drop("Cat")
            self.assertEqual((len(live.log), len(list(live.worlds()))), (40, 41))
            self.refused((LimitExceeded, 40), live, lambda: live.add(CAT), lambda: live.drop("Fish"))
            self.refused((InvalidWorld, "name", "Fish"), live, lambda: live.add(Kind("Fish")))
            self.refused((InvalidWorld, "declaration", 1), live, lambda: live.add("Cat"))
            self.refused((UnknownName, "Cat"), live, lambda: live.drop("Cat"))
            self.assertIs(live.accepts(CAT), True)
            self.assertIs(live.accepts(Kind("Fish")), False)
            live.undo()
            self.assertIn("Cat", live)
            self.refused((InvalidWorld, "parameter", ("Cat", "eat", 0, 0)), live, lambda: live.drop("Fish"))
            live.add(EATER)
            self.refused((InvalidWorld, "parameter", ("Cat", "eat", 0, 0)), live, lambda: live.drop("Fish"))
            self.refused((LimitExceeded, 40), live, lambda: live.drop("Eater"))
            for _ in range(40):
                self.assertIsNone(live.undo())
            self.refused((NothingToUndo,), live, live.undo)
            self.assertEqual((live.world.declarations, live.log), ((FISH,), ()))
            for _ in range(40):
                self.assertIsNone(live.add(CAT) if "Cat" not in live else live.drop("Cat"))
            self.refused((LimitExceeded, 40), live, lambda: live.add(CAT))

    def test_worlds(self):
        live = PledgedWorld(FISH)
        live.add(CAT)
        live.pledge(read("Cat"), read("Fish"))
        live.add(EATER)
        live.drop("Eater")
        live.undo()
        self.assertEqual([world.declarations for world in live.worlds()],
                         [(FISH,), (FISH, CAT), (FISH, CAT), (FISH, CAT, EATER)])
        for world in live.worlds():
            self.assertIs(type(world), World)
            self.assertIs(fits(world, read("Fish"), Shape()), False)

    def test_random_changes(self):
        """Compare with a list of the declarations after each change."""
        seen = {"add": 0, "drop": 0, "undo": 0, "InvalidWorld": 0, "UnknownName": 0, "LimitExceeded": 0, "NothingToUndo": 0}
        for seed in range(60):
            chance = random.Random(seed)
            pool = list(itertools.chain(*[maker.world.declarations for maker in random_makers(3, kinds=3)]))
            live, rows, log = LiveWorld(), [()], []
            for _ in range(120):
                word = chance.choice(["add"] * 4 + ["drop"] * 2 + ["undo"] * (seed % 3))
                names = [part.name for part in rows[-1][-2:]] * 4 + ["Cat", "Dog", "Box", "T", "Object"]
                value = chance.choice(pool) if word == "add" else chance.choice(names)
                changed = rows[-1] + (value,) if word == "add" else tuple(part for part in rows[-1] if part.name != value)
                expected = told(lambda: World(*changed))
                expected = expected if isinstance(expected, tuple) else None
                if word == "drop" and changed == rows[-1]:
                    expected = (UnknownName, value)
                if word == "add":
                    self.assertIs(live.accepts(value), expected is None)
                if word == "undo":
                    expected = (NothingToUndo,) if not log else None
                    call = live.undo
                else:
                    expected = expected or ((LimitExceeded, 40) if len(log) == 40 else None)
                    call = (lambda: live.add(value)) if word == "add" else (lambda: live.drop(value))
                self.assertEqual(told(call), expected)
                if expected is None and word == "undo":
                    rows.pop()
                    log.pop()
                elif expected is None:
                    rows.append(changed)
                    log.append((word, value))
                seen[expected[0].__name__ if expected else word] += 1
                self.assertEqual((live.world.declarations, live.log, len(live)), (rows[-1], tuple(log), len(rows[-1])))
                self.assertEqual([world.declarations for world in live.worlds()], rows)
        self.assertGreater(min(seen.values()), 20, seen)


class Pledged(LiveTests):

    def test_pledges(self):
        live = PledgedWorld(FISH, CAT)
        one, other = (read("Cat"), read("Fish")), (read("Fish | Cat"), read("Object"))
        self.assertIsNone(live.pledge(*one))
        live.add(EATER)
        live.pledge(target=other[1], source=other[0])
        self.assertEqual(live.log, (("pledge", *one), ("add", EATER), ("pledge", *other)))
        self.assertEqual(live.pledges, (one, other))
        for row, given in zip(live.pledges, (one, other)):
            self.assertTrue(row[0] is given[0] and row[1] is given[1])
        live.undo()
        self.assertEqual((live.pledges, len(live.log)), ((one,), 2))
        live.undo()
        live.undo()
        self.assertEqual((live.pledges, live.log), ((), ()))

    def test_the_same_pledge_twice(self):
        live = PledgedWorld(FISH, CAT)
        for _ in range(3):
            live.pledge(read("Cat"), read("Fish"))
        self.assertEqual(len(live.pledges), 3)
        live.undo()
        self.assertEqual(len(live.pledges), 2)

    def test_pledges_that_do_not_fit(self):
        live = PledgedWorld(FISH, CAT, EATER)
        for many in range(3):
            self.refused((Broken, many), live, lambda: live.pledge(read("Fish"), read("Cat")), lambda: live.pledge(read("Fish"), Shape()))
            live.pledge(read("Cat"), read("Eater"))

    def test_shapes_that_are_not_of_the_world(self):
        live = PledgedWorld(FISH, CAT, EATER)
        for source, target, expected in (
            ("Dog", "Bird", (UnknownName, "Dog")), ("Cat", "Bird", (UnknownName, "Bird")), ("Cat[Fish]", "Bird", (WrongArguments, "Cat")),
            ("Fish", "Cat[Fish]", (WrongArguments, "Cat")),
        ):
            self.refused(expected, live, lambda: live.pledge(read(source), read(target)))

    def test_pledges_that_are_too_large(self):
        live = PledgedWorld(*cycles().declarations, Kind("J", Method("next", Way(Shape(*numbered("Box", 2001))))))
        self.refused((TooLarge, 2000), live, lambda: live.pledge(read("J"), read("A | D")))
        self.assertIsNone(live.pledge(read("A"), read("A | D")))
        self.refused((TooLarge, 2000), live, lambda: live.pledge(read("J"), read("A | D")))
        live.drop("J")
        self.assertEqual(len(live.pledges), 1)

    def test_dropping_what_pledges_need(self):
        live = PledgedWorld(*boxes().declarations, EATER, Kind("Food"), Kind("Bird"))
        live.pledge(read("Source[Cat | Fish]"), read("Source[Fish | Cat]"))
        live.pledge(read("Fish"), read("Tag[Source[Food]] | Object"))
        live.pledge(read("Food"), read("Object"))
        for name, expected in (
            ("Tag", (Broken, 1)), ("Food", (Broken, 1)), ("Source", (Broken, 0)),
            ("Fish", (InvalidWorld, "parameter", ("Eater", "eat", 0, 0))), ("Cat", (InvalidWorld, "result", ("Tag", "name", 0))),
        ):
            self.refused(expected, live, lambda: live.drop(name))
        for name in ("Bird", "Cell", "Sink", "Pair"):
            self.assertIsNone(live.drop(name))
        live.drop("Eater")
        self.refused((Broken, 0), live, lambda: live.drop("Fish"), lambda: live.drop("Source"))
        for _ in range(6):
            live.undo()
        self.refused((Broken, 1), live, lambda: live.drop("Tag"), lambda: live.drop("Food"))
        live.undo()
        self.assertIsNone(live.drop("Tag"))
        self.assertIsNone(live.drop("Food"))

    def test_adding_breaks_no_pledge(self):
        live = PledgedWorld(FISH, CAT)
        live.pledge(read("Cat"), read("Fish"))
        live.add(EATER)
        live.add(Kind("Dog", Method("eat", way("Cat", "Dog | Cat | Fish"))))
        self.assertTrue(fits(live.world, *live.pledges[0]))

    def test_a_pledge_is_broken_before_there_are_too_many_changes(self):
        live = PledgedWorld(FISH, CAT)
        for _ in range(40):
            live.pledge(read("Cat"), read("Fish"))
        self.refused((LimitExceeded, 40), live, lambda: live.pledge(read("Cat"), read("Fish")), lambda: live.add(EATER))
        self.refused((Broken, 40), live, lambda: live.pledge(read("Fish"), read("Cat")))
        self.refused((UnknownName, "Dog"), live, lambda: live.pledge(read("Fish"), read("Dog")))
        self.refused((Broken, 0), live, lambda: live.drop("Cat"))
        self.refused((InvalidWorld, "parameter", ("Cat", "eat", 0, 0)), live, lambda: live.drop("Fish"))
        self.assertIs(live.accepts(EATER), True)
        self.assertEqual(len(list(live.worlds())), 41)

    def test_the_first_pledge_that_is_broken(self):
        for order in itertools.permutations(("A", "B", "C")):
            live = PledgedWorld(*[Kind(name) for name in ("A", "B", "C", "D")])
            for name in order:
                live.pledge(read(name), read("D"))
                live.pledge(read("D"), read("Object | " + name))
            for name in order:
                self.refused((Broken, 2 * order.index(name)), live, lambda: live.drop(name))
            self.refused((Broken, 0), live, lambda: live.drop("D"))

    def test_random_pledges(self):
        seen = {"kept": 0, "broken": 0, "not fitting": 0}
        for maker in random_makers(80, kinds=4, methods=2):
            given = *maker.world.declarations, Kind("Ant"), Role("Mite", Method("get", way("Mite")))
            live, oracle = PledgedWorld(*given), Oracle(given)
            pledges = []
            for _ in range(6):
                source, target = maker.shape(), maker.shape()
                if oracle.fits(source, target):
                    self.assertIsNone(live.pledge(source, target))
                    pledges.append((source, target))
                else:
                    self.refused((Broken, len(pledges)), live, lambda: live.pledge(source, target))
                    seen["not fitting"] += 1
            self.assertEqual(live.pledges, tuple(pledges))
            for part in given:
                left = [other for other in live.world.declarations if other is not part]
                expected = told(lambda: World(*left))
                if not isinstance(expected, tuple):
                    smaller = Oracle(left)
                    broken = [number for number, shapes in enumerate(pledges) if not all(smaller.is_plain(shape) for shape in shapes)]
                    expected = (Broken, broken[0]) if broken else None
                    seen["broken" if broken else "kept"] += 1
                    if not broken:
                        for source, target in pledges:
                            self.assertTrue(smaller.fits(source, target))
                if expected is None:
                    self.assertIsNone(live.drop(part.name))
                    live.undo()
                else:
                    self.refused(expected, live, lambda: live.drop(part.name))
        self.assertGreater(min(seen.values()), 10, seen)


if __name__ == "__main__":
    unittest.main()
