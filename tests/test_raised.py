"""The exceptions that all modules raise: of exactly one class, and with the very objects as fields (k73)."""

import unittest

from samples import boxes, cycles, farm, numbered, read, stairs, way
from shapetypes import errors
from shapetypes.calls import called, overlaps
from shapetypes.declarations import Kind, Method, Role, Way
from shapetypes.fitting import check_decision, fits
from shapetypes.live import LiveWorld, PledgedWorld
from shapetypes.members import Narrower, members
from shapetypes.programs import Program
from shapetypes.runs import environments, judge, run
from shapetypes.shapes import Atom, Shape
from shapetypes.tables import fit_table
from shapetypes.worlds import World, least_marks
from values import large_shape, values_besides

CLASSES = [value for value in vars(errors).values() if isinstance(value, type) and value is not errors.ShapetypesError]
MORE_PICKS = "new f K0\ncall a f pick\ncall b f pick\ncall c f pick\ncall d f pick"


def full():
    """A live world with as many changes as there may be."""
    live = PledgedWorld(*farm().declarations)
    for _ in range(40):
        live.pledge(read("Cat"), read("Eater"))
    return live


class Raised(unittest.TestCase):

    def raised(self, call):
        with self.assertRaises(ValueError) as caught:
            call()
        self.assertEqual(len(CLASSES), 20)
        self.assertEqual([type(caught.exception)], [made for made in CLASSES if isinstance(caught.exception, made)])
        return caught.exception

    def test_classes(self):
        cat, world, program = read("Cat"), farm(), Program.read("new x Cat\nnew y Fish\ncall x x eat y")
        seen = set()
        for name, call, fields in (
            ("InvalidAtom", lambda: Atom("1"), ["name"]), ("InvalidAtom", lambda: Atom("A", 1), [0]),
            ("InvalidShape", lambda: Shape(Atom("A"), 1), [1]), ("InvalidText", lambda: Shape.read("A |"), ["A |"]),
            ("InvalidDeclaration", lambda: Way(1), ["result", None]), ("InvalidDeclaration", lambda: Kind("A", 1), ["method", 0]),
            ("InvalidDeclaration", lambda: Method("m", way("A"), 1), ["way", 1]), ("InvalidWorld", lambda: World(1), ["declaration", 0]),
            ("InvalidWorld", lambda: World(Kind("A", Method("m", way("B")))), ["result", ("A", "m", 0)]),
            ("UnknownName", lambda: world["Bird"], ["Bird"]), ("UnknownName", lambda: least_marks(world, "Object"), ["Object"]),
            ("UnknownName", lambda: members(world, read("Bird")), ["Bird"]), ("UnknownName", lambda: fit_table(world, read("Bird")), ["Bird"]),
            ("WrongArguments", lambda: fits(world, cat, read("Cat[Cat]")), ["Cat"]),
            ("InvalidUse", lambda: world.allows(cat, ("eat", ()), 1), [1]), ("NotAllowed", lambda: world.result(cat, ("eat", ())), [0]),
            ("InvalidAnswer", lambda: check_decision(world, cat, cat, ()), ["form"]),
            ("InvalidAnswer", lambda: check_decision(world, cat, cat, ("use", ())), ["use"]),
            ("TooLarge", lambda: fits(cycles(), Shape(*numbered("Box", 200)), read("A | D")), [2000]),
            ("TooLarge", lambda: judge(stairs(), Program.read(MORE_PICKS)), [2000]),
            ("InvalidKinds", lambda: called(world, 1, "eat"), ["receivers", None]),
            ("InvalidKinds", lambda: called(world, (), "eat", (), ("Bird",)), [1, 0]),
            ("InvalidKinds", lambda: Narrower(world)(("Cat", "Cat")), ["kinds", 1]),
            ("NotTaken", lambda: called(world, ("Cat",), "eat", ("Cat",)), [("Cat", ("eat", ("Cat",)))]),
            ("InvalidChoice", lambda: run(world, program, ("Fish",)), [0]), ("InvalidChoice", lambda: run(world, program, []), [None]),
            ("MissingChoice", lambda: run(world, program, ()), [3]), ("InvalidNumber", lambda: list(environments(world, program, 4)), [4]),
            ("UnknownName", lambda: judge(world, Program.read("new x Eater")), ["Eater"]),
            ("LimitExceeded", lambda: full().add(Kind("Bird")), [40]), ("LimitExceeded", lambda: full().pledge(cat, cat), [40]),
            ("Broken", lambda: full().drop("Eater"), [0]), ("Broken", lambda: full().pledge(read("Fish"), cat), [40]),
            ("NothingToUndo", lambda: LiveWorld().undo(), []), ("NothingToUndo", lambda: PledgedWorld().undo(), []),
            ("ParseError", lambda: Program.read("new x"), [1, 3]), ("ParseError", lambda: Program.read(None), [0, 0]),
        ):
            error = self.raised(call)
            self.assertEqual((type(error).__name__, list(vars(error).values())), (name, fields))
            self.assertEqual([type(value) for value in vars(error).values()], [type(value) for value in fields])
            seen.add(type(error))
        self.assertEqual(len(seen), 20)

    def test_fields_are_the_very_objects(self):
        world, program = farm(), Program.read("new x Cat")
        live, pledged = LiveWorld(Kind("Cat")), PledgedWorld(Kind("Cat"))
        narrower, atom = Narrower(world), Atom("Dog")
        for value in values_besides("Bird", "Object", large_shape(), large_shape().atoms, world, program, live):
            for call in (
                lambda: world[value], lambda: least_marks(world, value), lambda: narrower.case_of(value), lambda: live.drop(value),
                lambda: pledged.drop(value), lambda: next(iter(overlaps(world, atom, value))),
            ):
                error = self.raised(call)
                self.assertIs(type(error), errors.UnknownName)
                self.assertIs(error.word, value)
            if not (type(value) is int and value == 1):
                error = self.raised(lambda: next(iter(environments(world, program, value))))
                self.assertIs(type(error), errors.InvalidNumber)
                self.assertIs(error.value, value)
            error = self.raised(lambda: Shape.read(value)) if value not in ("Bird", "Object", "Never") else None
            if error is not None:
                self.assertIs(type(error), errors.InvalidText)
                self.assertIs(error.value, value)
            error = self.raised(lambda: called(world, ("Cat",), value, ("Fish", "Dog"), ("Cat",)))
            self.assertIs(type(error), errors.NotTaken)
            self.assertEqual((error.use[0], error.use[1][1]), ("Cat", ("Fish", "Cat")))
            self.assertIs(error.use[1][0], value)

    def test_errors_of_worlds_name_the_parts(self):
        for declarations, item in (
            ((Kind("A", Method("m", way("A"), way("A")), Method("n", way("A", "B"))),), ("parameter", ("A", "n", 0, 0))),
            ((Role("R", Method("m", way("T", "T")), T="out"),), ("mark", ("R", "m", 0, 0))),
        ):
            for call in (lambda: World(*declarations), lambda: LiveWorld(*declarations), lambda: LiveWorld().add(declarations[0])):
                error = self.raised(call)
                self.assertEqual((error.rule, error.item), item)

    def test_a_call_that_raises_has_no_other_effect(self):
        world = boxes()
        expected = [fits(world, read(one), read(other)) for one in ("Cat", "Source[Cat]") for other in ("Tag[Cat]", "Object")]
        for shape in (read("Bird"), read("Source"), read("Sink[Source[Cat]]")):
            self.raised(lambda: fits(world, shape, shape))
            self.raised(lambda: members(world, shape))
            self.raised(lambda: fit_table(world, read("Cat"), shape))
        self.assertEqual([fits(world, read(one), read(other)) for one in ("Cat", "Source[Cat]") for other in ("Tag[Cat]", "Object")], expected)


if __name__ == "__main__":
    unittest.main()
