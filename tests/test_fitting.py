"""Fitting: fits, decide and are_alike (k12, k13), what holds of fitting (k15, k16, k20), and its limit (k22)."""

import itertools
import unittest
from unittest import mock

from makers import MARKS, Maker, random_makers
from oracle import Oracle
from samples import boxes, cycles, farm, large_kinds, numbered, read, way
from shapetypes.declarations import Kind, Method, Role, Way
from shapetypes.errors import TooLarge
from shapetypes.fitting import MAX_PAIRS, are_alike, check_decision, decide, fits
from shapetypes.members import Narrower, members
from shapetypes.shapes import Atom, Shape
from shapetypes.worlds import World

EVEN = {"even": True, "methods": 2}


def texts(pairs):
    return {(atom.text, shape.text) for atom, shape in pairs}


class Answers(unittest.TestCase):

    def check(self, world, oracle, source, target):
        """Check all answers for two shapes; returns the length of the breaking use, or None."""
        reached, fitting = oracle.reached(source, target)
        breaking = oracle.breaking_use(source, target)
        self.assertIs(fits(world, source, target), fitting)
        self.assertIs(breaking is None, fitting)
        answer = decide(world, source, target)
        self.assertEqual([type(answer), type(answer[1])], [tuple, tuple])
        self.assertEqual(check_decision(world, source, target, answer), answer[0])
        if fitting:
            self.assertEqual((answer[0], len(answer[1])), ("derivation", len(reached)))
            self.assertEqual(texts(answer[1]), reached)
            self.assertTrue(oracle.is_derivation(source, target, answer[1]))
            return None
        self.assertEqual((answer[0], len(answer[1])), ("use", len(breaking)))
        for use in answer[1]:
            self.assertTrue(world.is_use(use))
        self.assertIsNotNone(oracle.result(target, *answer[1]))
        self.assertIsNone(oracle.result(source, *answer[1]))
        self.assertIs(world.allows(target, *answer[1]), True)
        self.assertIs(world.allows(source, *answer[1]), False)
        return len(answer[1])

    def check_all(self, makers, many):
        told = {}
        for maker in makers:
            oracle = Oracle(maker.world.declarations)
            for _ in range(many):
                length = self.check(maker.world, oracle, maker.shape(), maker.shape())
                told[length] = told.get(length, 0) + 1
        return told

    def test_random_worlds(self):
        told = self.check_all(random_makers(60), 5)
        self.assertGreater(min(told[None], told[1]), 50, told)

    def test_even_worlds(self):
        told = self.check_all([Maker(seed, kinds=4, roles=1, **EVEN) for seed in range(60)], 5)
        self.assertGreater(min(told[None], told[1], told[2], told[3]), 10, told)

    def test_worlds_of_kinds(self):
        told = self.check_all([Maker(seed, kinds=3, roles=0, **EVEN) for seed in range(60)], 5)
        self.assertGreater(min(told[None], told[1], told[2]), 10, told)

    def test_the_worlds_of_the_document(self):
        for world in (farm(), boxes()):
            oracle = Oracle(world.declarations)
            shapes = [read(text) for text in (
                "Never", "Object", "Cat", "Dog", "Fish", "Cat | Dog", "Cat | Dog | Fish", "Cat | Object")]
            shapes += [read(text) for text in ("Eater", "Cell[Cat]", "Cell[Cat | Dog]", "Source[Cat]", "Sink[Cat | Dog]",
                       "Source[Never]", "Pair[Cat, Dog]", "Tag[Object]") if world.is_plain(read(text))]
            for source, target in itertools.product(shapes, repeat=2):
                self.check(world, oracle, source, target)
                expected = fits(world, source, target) and fits(world, target, source)
                self.assertIs(are_alike(world, source, target), expected)

    def test_by_name(self):
        world, cat, dog = farm(), read("Cat"), read("Dog")
        self.assertIs(fits(world=world, source=dog, target=cat), True)
        self.assertIs(fits(world=world, source=cat, target=dog), False)
        self.assertIs(are_alike(world=world, one=cat, other=cat), True)
        self.assertEqual(decide(world=world, source=cat, target=dog)[0], "use")
        self.assertEqual(check_decision(world=world, source=cat, target=cat, answer=decide(world, cat, cat)), "derivation")

    def test_the_examples(self):
        world = farm()
        self.assertEqual(decide(world, read("Cat"), read("Dog")), ("use", (("eat", ("Cat",)),)))
        for source, target in (("Cat", "Eater"), ("Dog", "Eater"), ("Cat | Dog", "Eater"), ("Eater", "Cat")):
            self.assertIs(fits(world, read(source), read(target)), True)
        for source, target in (("Fish", "Eater"), ("Cat | Fish", "Eater"), ("Eater", "Dog"), ("Object", "Eater")):
            self.assertIs(fits(world, read(source), read(target)), False)
        self.assertIs(are_alike(world, read("Cat"), read("Eater")), True)
        self.assertIs(are_alike(world, read("Dog"), read("Eater")), False)
        self.assertIs(are_alike(world, read("Eater"), read("Dog")), False)

    def test_derivations(self):
        world = farm()
        pairs = decide(world, read("Cat"), read("Eater"))[1]
        self.assertEqual(pairs, ((Atom("Cat"), read("Eater")),))
        self.assertIs(type(pairs[0]), tuple)
        self.assertEqual(decide(world, read("Never"), read("Eater")), ("derivation", ()))
        self.assertEqual(texts(decide(world, read("Cat | Dog"), read("Object"))[1]), {("Cat", "Object"), ("Dog", "Object")})

    def test_breaking_uses_of_never(self):
        # Any use that is not allowed breaks Never, also for those who have many methods.
        names = "abcdef"
        for chosen in itertools.combinations(names, 5):
            world = World(Kind("Cat", *[Method(name, way("Never")) for name in chosen]))
            answer = decide(world, read("Cat"), Shape())
            self.assertEqual((answer[0], len(answer[1])), ("use", 1))
            self.assertIs(world.allows(read("Cat"), *answer[1]), False)
            self.assertIs(world.is_use(answer[1][0]), True)
        self.assertEqual(check_decision(world, read("Cat"), Shape(), answer), "use")
        for text in ("Object", "Object | Cat"):
            self.assertEqual(decide(world, read(text), Shape())[0], "use")
        self.assertEqual(decide(World(), read("Object"), Shape())[0], "use")

    def test_results_that_are_never(self):
        world = World(Kind("Cat", Method("run", way("Never"))), Kind("Dog", Method("run", way("Dog"))))
        self.assertIs(fits(world, read("Cat"), read("Dog")), True)
        answer = decide(world, read("Dog"), read("Cat"))
        self.assertEqual((answer[0], len(answer[1]), answer[1][0]), ("use", 2, ("run", ())))
        self.assertIs(world.allows(read("Cat"), *answer[1]), True)
        self.assertIs(world.allows(read("Dog"), *answer[1]), False)

    def test_long_breaking_uses(self):
        # Each kind has the next one as its result, and only the last one cannot run further.
        names = [f"K{number}" for number in range(12)]
        kinds = [Kind(one, Method("run", way(other))) for one, other in zip(names, names[1:])] + [Kind(names[-1])]
        world = World(*kinds, Role("Run", Method("run", way("Run"))))
        for number, name in enumerate(names):
            answer = decide(world, read(name), read("Run"))
            self.assertEqual(answer, ("use", (("run", ()),) * (12 - number)))
            for other in range(12):
                self.assertIs(fits(world, read(name), read(names[other])), number <= other)

    def test_the_shortest_breaking_use(self):
        world = World(
            Kind("Cat", Method("far", way("Dog")), Method("near", way("Fish")), Method("here", way("Cat"))),
            Kind("Dog", Method("far", way("Fish")), Method("near", way("Dog")), Method("here", way("Dog"))),
            Kind("Fish", Method("far", way("Fish")), Method("near", way("Fish"))),
            Role("All", Method("far", way("All")), Method("near", way("All")), Method("here", way("All"))),
        )
        self.assertEqual(decide(world, read("Cat"), read("All")), ("use", (("near", ()), ("here", ()))))
        self.assertEqual(decide(world, read("Dog"), read("All")), ("use", (("far", ()), ("here", ()))))
        self.assertEqual(decide(world, read("Cat | Fish"), read("All")), ("use", (("here", ()),)))


class Facts(unittest.TestCase):

    def test_never_and_object(self):
        for maker in random_makers(40):
            for _ in range(5):
                shape = maker.shape()
                self.assertIs(fits(maker.world, Shape(), shape), True)
                self.assertIs(fits(maker.world, shape, read("Object")), True)
                self.assertIs(fits(maker.world, shape, Shape()), not shape)
                self.assertIs(fits(maker.world, shape, shape), True)
                self.assertIs(are_alike(maker.world, shape, shape), True)

    def test_transitive_and_unions(self):
        chains = 0
        for maker in [*random_makers(50), *random_makers(30, **EVEN)]:
            shapes = [maker.shape() for _ in range(6)]
            fit = {pair: fits(maker.world, shapes[pair[0]], shapes[pair[1]])
                   for pair in itertools.product(range(6), repeat=2)}
            for one, two, three in itertools.permutations(range(6), 3):
                if fit[one, two] and fit[two, three]:
                    self.assertTrue(fit[one, three])
                    chains += bool(shapes[one]) and len(shapes[two].atoms) and shapes[three] != read("Object")
                both = fits(maker.world, shapes[one] | shapes[two], shapes[three])
                self.assertIs(both, fit[one, three] and fit[two, three])
                self.assertIs(fits(maker.world, shapes[one] & shapes[two], shapes[one]), True)
                self.assertIs(fits(maker.world, shapes[one], shapes[one] | shapes[two]), True)
        self.assertGreater(chains, 100)

    def test_marks(self):
        """Point [42]: arguments that stand so to each other make atoms of the same role fit."""
        looked_at = {mark: 0 for mark in MARKS}
        for maker in [*random_makers(60, roles=3), *random_makers(40, roles=3, **EVEN)]:
            for name, marks in maker.roles.items():
                for _ in range(4):
                    pairs = [self.arguments(maker, mark) for mark in marks.values()]
                    one, other = Atom(name, *[pair[0] for pair in pairs]), Atom(name, *[pair[1] for pair in pairs])
                    self.assertIs(fits(maker.world, Shape(one), Shape(other)), True)
                    for mark in marks.values():
                        looked_at[mark] += one != other
        self.assertGreater(min(looked_at[mark] for mark in ("none", "out", "in")), 50)

    def arguments(self, maker, mark):
        """Two arguments for which atoms fit, as far as a parameter with this mark goes."""
        one, other = maker.argument(mark, 1), maker.argument(mark, 1)
        if mark == "out" and not fits(maker.world, one, other):
            return one, one | other
        if mark == "in":
            return one | other, other
        return one, one if mark == "both" else other

    def test_marks_of_a_cell(self):
        world = boxes()
        for texts, expected in (
            (("Source[Cat]", "Source[Cat | Fish]"), True), (("Source[Cat | Fish]", "Source[Cat]"), False),
            (("Sink[Cat | Dog]", "Sink[Cat]"), True), (("Sink[Cat]", "Sink[Cat | Dog]"), False),
            (("Cell[Cat]", "Cell[Cat | Fish]"), False), (("Cell[Cat | Fish]", "Cell[Cat]"), False),
            (("Cell[Cat]", "Source[Cat | Dog]"), True), (("Cell[Cat | Dog]", "Sink[Dog]"), True),
            (("Tag[Cat]", "Tag[Object]"), True), (("Source[Never]", "Source[Cat]"), True),
        ):
            self.assertIs(fits(world, read(texts[0]), read(texts[1])), expected, texts)

    def test_worlds_that_grow(self):
        """Point [43]: neither kinds nor roles that are added change anything."""
        for maker in [*random_makers(40), *random_makers(20, **EVEN)]:
            shapes = [maker.shape() for _ in range(6)]
            more = [Kind("Aa", Method("get", way("Aa")), Method("put", way("Aa", "Aa"))), Kind("Zz"),
                    Role("New", Method("eat", way("S", "S | Aa"), way("New[S]", "Zz")), S="both")]
            declarations = list(maker.world.declarations)
            declarations[1:1] = more
            larger = World(*declarations)
            for one, other in itertools.product(shapes, repeat=2):
                self.assertIs(fits(larger, one, other), fits(maker.world, one, other))
                small, large = decide(maker.world, one, other), decide(larger, one, other)
                self.assertEqual((small[0], len(small[1])), (large[0], len(large[1])))
                self.assertEqual(check_decision(larger, one, other, small), small[0])
            for shape in shapes:
                told = [kind for kind in members(larger, shape) if kind in maker.kinds]
                self.assertEqual(tuple(told), members(maker.world, shape))


class Limit(unittest.TestCase):

    def too_large(self, call):
        with self.assertRaises(TooLarge) as caught:
            call()
        self.assertEqual(caught.exception.limit, 2000)

    def check(self, world, source, target, pairs, fitting):
        """Check the number of reached pairs, which are too many beyond 2000."""
        for _ in range(2):
            if pairs > 2000:
                for ask in (fits, decide, are_alike):
                    self.too_large(lambda: ask(world, source, target))
            else:
                answer = decide(world, source, target)
                self.assertEqual(answer[0], "derivation" if fitting else "use")
                if fitting:
                    self.assertEqual((len(answer[1]), len(texts(answer[1]))), (pairs, pairs))
                self.assertIs(fits(world, source, target), fitting)

    def test_max_pairs(self):
        self.assertEqual((type(MAX_PAIRS), MAX_PAIRS), (int, 2000))

    def test_pairs_of_the_source(self):
        world = cycles()
        for many in (1, 1999, 2000, 2001, 2500):
            source = Shape(*numbered("Bag", many))
            self.check(world, source, read("Object"), many, True)
            self.check(world, source, read("Next"), many, False)
            self.check(world, source, Shape(), many, False)

    def test_pairs_that_steps_lead_to(self):
        world, target = cycles(), read("A | D")
        boxes, bags = numbered("Box", 200), numbered("Bag", 25)
        for many in (1, 2, 166, 167):
            self.check(world, Shape(*boxes[:many]), target, 12 * many, True)
        for more in (1, 7, 8, 9, 10):
            self.check(world, Shape(*boxes[:166], *bags[:more]), target, 12 * 166 + more, False)
        self.check(world, Shape(*boxes[:1]), read("A | D | Object"), 1, True)

    def test_pairs_of_both_parts_of_the_source(self):
        # A kind of the cycle is reached with all shapes, and another kind with it.
        world, target = cycles(), read("A | D")
        self.check(world, read("A"), target, 12, True)
        self.check(world, read("A | B"), target, 24, True)
        self.check(world, read("A | D"), target, 24, True)
        self.check(world, Shape(Atom("A"), *numbered("Box", 165)), target, 12 * 166, True)
        self.check(world, Shape(Atom("A"), Atom("E"), *numbered("Box", 165)), target, 12 * 167, True)

    def test_pairs_behind_pairs_that_fail_do_not_count(self):
        world = World(
            *cycles().declarations[:7], Role("Half", Method("next", way("Half[T, U]")), T="none", U="none"),
            Role("Whole", Method("next", way("Whole")), Method("other", way("Whole"))),
        )
        for many in (2000, 2001):
            self.check(world, Shape(*numbered("Half", many)), read("Whole"), many, False)

    def test_pairs_of_failing_uses_count(self):
        # The first pair that is looked at fails, and too many others are reached nevertheless.
        world = cycles()
        boxes = Shape(*numbered("Box", 167))
        for first in ("Bag[Never, Never]", "Object"):
            source = boxes | read(first)
            self.too_large(lambda: fits(world, source, read("A | D")))
            self.too_large(lambda: decide(world, source, read("A | D")))

    def test_are_alike(self):
        world, many = cycles(), Shape(*numbered("Bag", 2001))
        # The second direction is looked at only if the first one fits.
        self.assertIs(fits(world, read("Object"), many), True)
        self.too_large(lambda: are_alike(world, read("Object"), many))
        self.too_large(lambda: are_alike(world, many, read("Object")))
        boxes = Shape(*numbered("Box", 2001))
        self.assertIs(are_alike(world, read("Object"), boxes), False)
        self.too_large(lambda: are_alike(world, boxes, read("Object")))

    def test_members(self):
        # Pairs are counted for each kind alone.
        atoms, target = numbered("Box", 300), read("A | D")
        world = World(*cycles().declarations, Kind("H", Method("next", Way(Shape(*atoms[:150])))),
                      Kind("I", Method("next", Way(Shape(*atoms[150:])))))
        self.check(world, read("H"), target, 1 + 12 * 150, True)
        self.check(world, read("H | I"), target, 2 + 12 * 300, True)
        self.assertEqual(members(world, target), tuple("ABCDEFGHI"))
        self.assertEqual(Narrower(world, Shape(), target).case_of("I"), 1)

    def test_members_that_are_too_large(self):
        world = World(
            *cycles().declarations, Kind("H", Method("next", Way(Shape(*numbered("Box", 167))))), Kind("I"),
        )
        target = read("A | D")
        self.too_large(lambda: fits(world, read("H"), target))
        self.too_large(lambda: members(world, target))
        self.too_large(lambda: members(world, target))
        self.too_large(lambda: Narrower(world, read("I"), target))
        self.assertEqual(members(world, read("A | Object")), tuple("ABCDEFGHI"))

    def test_derivations_of_any_size(self):
        world = cycles()
        pairs = tuple([(atom, read("Object")) for atom in numbered("Bag", 2500)])
        for many in (2000, 2500):
            source = Shape(*[atom for atom, _ in pairs[:many]])
            self.assertEqual(check_decision(world, source, read("Object"), ("derivation", pairs)), "derivation")

    def test_limits_of_other_sizes(self):
        """What earlier questions have shown does not change later answers, for any limit and any order."""
        told = {True: 0, False: 0, None: 0}
        makers = [*random_makers(40, **EVEN), *[Maker(seed, kinds=4, roles=1, **EVEN) for seed in range(40)]]
        for number, maker in enumerate(makers):
            world, limit = maker.world, maker.random.randint(1, 40)
            oracle = Oracle(world.declarations)
            shapes = [maker.shape(1) for _ in range(5)]
            # Atoms alone and shapes together: few pairs are reached for each part, and many for the whole.
            shapes += [Shape(maker.atom(1)), Shape(maker.atom(1)), shapes[0] | shapes[1], shapes[2] | shapes[3]]
            questions = list(itertools.product(shapes, repeat=2))
            maker.random.shuffle(questions)
            kept = 5000 if number % 2 else 100000000
            with mock.patch("shapetypes.fitting.MAX_PAIRS", limit), mock.patch("shapetypes.books.MAX_KEPT", kept):
                for source, target in questions:
                    expected = self.expected(oracle, source, target, limit)
                    self.assertEqual(self.outcome(lambda: fits(world, source, target)), expected)
                    answer = self.outcome(lambda: decide(world, source, target)[0])
                    self.assertEqual(answer, {True: "derivation", False: "use", None: None}[expected])
                    told[expected] += 1
                for shape in shapes:
                    kinds = [(kind, self.expected(oracle, read(kind), shape, limit)) for kind in world.kinds]
                    expected = tuple(kind for kind, fitting in kinds if fitting)
                    expected = None if None in dict(kinds).values() else expected
                    self.assertEqual(self.outcome(lambda: members(world, shape)), expected)
        self.assertGreater(min(told.values()), 500, told)

    def outcome(self, call):
        try:
            return call()
        except TooLarge:
            return None

    def expected(self, oracle, source, target, limit):
        """Whether the source fits, or None if more pairs than the limit are reached."""
        reached, fitting = oracle.reached(source, target, limit)
        return fitting if len(reached) <= limit else None

    def test_the_largest_worlds(self):
        world = World(*large_kinds(12), *[Role(f"R{number}") for number in range(8)])
        for one, other in itertools.product(world.kinds, repeat=2):
            self.assertIs(fits(world, read(one), read(other)), True)
        self.assertEqual(members(world, read(" | ".join(world.kinds))), world.kinds)
        self.assertEqual(len(decide(world, read("K0"), read("K0"))[1]), 12)
        self.assertEqual(len(decide(world, read("K0"), read("K1"))[1]), 12)


if __name__ == "__main__":
    unittest.main()
