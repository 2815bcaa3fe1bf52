"""run, judge and environments (k50 to k52), calls in programs (k53), and their first errors (k54, k55)."""

import itertools
import random
import unittest

from makers import Maker, random_makers
from oracle import Bounded, Oracle
from program_makers import ProgramMaker
from program_oracle import Runs
from samples import cycles, farm, numbered, read, stairs, way
from shapetypes.calls import called
from shapetypes.declarations import Kind, Method, Role, Way
from shapetypes.errors import (
    InvalidChoice, InvalidNumber, MissingChoice, NotTaken, ShapetypesError, TooLarge, UnknownName, WrongArguments,
)
from shapetypes.members import Narrower, members
from shapetypes.programs import Program
from shapetypes.runs import MAX_ENVIRONMENTS, environments, judge, run
from shapetypes.shapes import Atom, Shape
from shapetypes.worlds import World
from values import values_besides

EXAMPLE = "new f Fish\nnew d Dog\nnew c Cat\ncall x d eat c\nmatch x\ncase Eater\ncall y x eat f\nelse\ncall y x eat f\nend"


def program(*rows):
    """The program with these rows, some of which can be several."""
    return Program.read("\n".join(rows))


def told(call):
    """The class and the fields of the exception that a call raises, or what it returns."""
    try:
        return call()
    except ShapetypesError as error:
        return type(error), *vars(error).values()


class RunTests(unittest.TestCase):
    """What several classes of tests ask."""

    def all_raise(self, expected, world, given, lines=(1,)):
        """Whether run, judge and environments have the same first error."""
        for _ in range(2):
            self.assertEqual(told(lambda: run(world, given, ())), expected)
            self.assertEqual(told(lambda: judge(world, given)), expected)
            for line in lines:
                self.assertEqual(told(lambda: list(environments(world, given, line))), expected)


class Judgements(RunTests):

    def test_the_example(self):
        self.assertEqual(judge(farm(), Program.read(EXAMPLE)), ("refused", 9, ("Fish",)))
        self.assertEqual(judge(world=farm(), program=Program.read(EXAMPLE)), ("refused", 9, ("Fish",)))

    def test_accepted(self):
        for rows, lines in (
            (["new x Cat"], ()), (["new x Cat", "new y Fish", "call z x eat y", "call z z eat y"], ()),
            (["new x Cat", "match x", "case Dog", "new y Cat", "new z Dog", "else", "new w Cat", "end"], (4, 5)),
            (["new x Cat", "match x", "case Cat", "else", "new y Cat", "match y", "case Dog", "new z Cat", "end", "end"],
             (5, 6, 8)),
            (["new x Cat", "match x", "case Never", "new y Cat", "case Eater", "case Eater", "new y Dog", "end"], (4, 7)),
            (["new x Dog", "new y Fish", "call z x eat y", "match z", "case Fish", "else", "new x Cat", "end"], (7,)),
        ):
            answer = judge(farm(), program(*rows))
            self.assertEqual(answer, ("accepted", lines))
            self.assertEqual((type(answer), type(answer[1])), (tuple, tuple))

    def test_runs_that_end(self):
        world = World(Kind("Cat", Method("eat", way("Never")), Method("run", way("Mouse"))), Role("Mouse", Method("eat", way("Mouse", "Cat"))))
        for name in ("eat", "run"):
            given = program("new x Cat", f"call y x {name}", "call z y nothing", "match w", "case Cat", "end")
            self.assertEqual(judge(world, given), ("accepted", (3, 4)))
            self.assertEqual(run(world, given, ()), ("ended", 2))
            self.assertEqual([list(environments(world, given, line)) for line in (2, 3)], [[("Cat",) + (None,) * 3], []])

    def test_refused(self):
        world = farm()
        for rows, line, choices in (
            (["call x y eat"], 1, ()), (["match x", "case Object", "end"], 1, ()), (["new x Cat", "call y x eat"], 2, ()),
            (["new x Cat", "new y Cat", "call z x eat y"], 3, ()), (["new x Fish", "match x", "case Eater", "end"], 2, ()),
            (["new x Cat", "call y x eat z"], 2, ()), (["new x Cat", "call x x nothing x"], 2, ()),
            (["new x Dog", "new y Cat", "call z x eat y", "match z", "case Cat", "case Dog", "end"], 4, ("Fish",)),
            (["new x Dog", "new y Cat", "call z x eat y", "call w x eat y", "match w", "case Eater", "match z", "case Eater",
              "end", "else", "end"], 7, ("Fish", None)),
        ):
            word, found, told_choices = judge(world, program(*rows))
            self.assertEqual((word, found, type(told_choices)), ("refused", line, tuple))
            self.assertEqual(len(told_choices), len(choices))
            for one, other in zip(told_choices, choices):
                self.assertIn(one, world.kinds if other is None else (other,))
            self.assertEqual(run(world, program(*rows), told_choices), ("failed", line))

    def test_the_first_line(self):
        """Some runs fail later, and some by fewer choices, but not at an earlier line."""
        world = farm()
        start = ["new c Cat", "new d Dog", "new f Fish", "call x d eat c", "match x"]
        given = program(*start, "case Dog", "call y x eat d", "case Cat", "call x x eat f", "call x x eat c", "else", "call y c eat c", "end")
        self.assertEqual(judge(world, given), ("refused", 7, ("Dog",)))
        given = program(*start, "case Dog", "case Cat", "call x x eat f", "call x x eat c", "else", "call y c eat c", "end")
        self.assertEqual(judge(world, given), ("refused", 9, ("Cat", "Cat")))
        given = program(*start, "case Dog", "case Cat", "else", "call y c eat c", "end", "call z x nothing")
        self.assertEqual(judge(world, given), ("refused", 9, ("Fish",)))

    def test_lines_behind_a_failure_are_not_reached(self):
        world = farm()
        given = program("new x Cat", "call y x run", "new z Cat", "match q", "case Cat", "end")
        self.assertEqual(judge(world, given), ("refused", 2, ()))
        self.assertEqual([list(environments(world, given, line)) for line in (1, 2, 3, 4)],
                         [[(None,) * 4], [("Cat", None, None, None)], [], []])

    def test_variables_keep_their_values_if_a_block_does_not_change_them(self):
        world = farm()
        given = program("new x Cat", "match x", "case Eater", "new y Dog", "else", "new x Fish", "end", "match y", "case Dog", "end")
        self.assertEqual(judge(world, given), ("accepted", (6,)))
        self.assertEqual(list(environments(world, given, 8)), [("Cat", "Dog")])
        self.assertEqual(run(world, given, ()), ("done", ("Cat", "Dog")))

    def test_more_kinds_can_break_an_accepted_program(self):
        world = farm()
        given = program("new d Dog", "new c Cat", "call x d eat c", "match x", "case Cat", "else", "match x", "case Dog", "case Object",
                        "call y d eat x", "end", "end")
        self.assertEqual(judge(world, given), ("accepted", ()))
        larger = World(*world.declarations, Kind("Bird"))
        word, line, choices = judge(larger, given)
        self.assertEqual((word, line, choices), ("refused", 10, ("Bird",)))

    def test_random_programs(self):
        seen = {"refused": 0, "accepted": 0, "lines": 0, "ended": 0, "done": 0, "choices": 0}
        for maker in [*random_makers(250, kinds=4), *random_makers(80, kinds=4, even=True, roles=1, methods=2)]:
            world, oracle = maker.world, Oracle(maker.world.declarations)
            for many in (2, 4):
                text = ProgramMaker(maker, many).text()
                runs, given = Runs(oracle, text), Program.read(text)
                answer = judge(world, given)
                seen[answer[0]] += 1
                if runs.failures:
                    first = min(runs.failures)
                    self.assertEqual(answer[:2], ("refused", first))
                    self.assertIn(answer[2], runs.failures[first])
                    seen["choices"] += answer[2] != ()
                else:
                    lines = tuple(line for line in runs.lines() if line not in runs.reached)
                    self.assertEqual(answer, ("accepted", lines))
                    seen["lines"] += lines != ()
                for line in runs.lines():
                    self.assertEqual(list(environments(world, given, line)), runs.environments(line))
                for environment, choices in runs.done[:20]:
                    self.assertEqual(run(world, given, choices), ("done", environment))
                    self.check_choices(world, given, choices)
                for word, rows in (("ended", runs.ends), ("failed", runs.failures)):
                    for line, choices in rows.items():
                        for row in list(choices)[:5]:
                            self.assertEqual(run(world, given, row), (word, line))
                            self.check_choices(world, given, row)
                seen["ended"] += len(runs.ends)
                seen["done"] += len(runs.done)
        self.assertGreater(min(seen.values()), 20, seen)

    def test_random_programs_that_are_too_large(self):
        """Worlds in which some shapes reach too many pairs."""
        seen = {"refused": 0, "accepted": 0, (TooLarge, 2000): 0}
        for seed in (1114, 5224):
            chance = random.Random(seed)
            sizes = [chance.randint(1, many) for many in (4, 3, 4, 4)]
            maker = Maker(seed, *sizes, even=chance.random() < 0.5)
            world, oracle = maker.world, Bounded(maker.world.declarations)
            for _ in range(15):
                text = ProgramMaker(maker, 2).text(5)
                given = Program.read(text)
                answer = told(lambda: judge(world, given))
                expected = told(lambda: self.bounded_runs(oracle, text))
                if isinstance(expected, tuple):
                    self.assertEqual(answer, expected)
                    seen[expected] += 1
                    continue
                seen[answer[0]] += 1
                for line in expected.lines():
                    self.assertEqual(list(environments(world, given, line)), expected.environments(line))
                if expected.failures:
                    self.assertEqual(answer[:2], ("refused", min(expected.failures)))
        self.assertGreater(min(seen.values()), 0, seen)

    def bounded_runs(self, oracle, text):
        """All runs; raises TooLarge if a case or the result of a call is too large."""
        for row in text.split("\n"):
            if row.startswith("case "):
                oracle.members(read(row[5:]))
        return Runs(oracle, text)

    def check_choices(self, world, given, choices):
        """All choices are needed, and further ones are not looked at."""
        self.assertEqual(run(world, given, (*choices, "nothing", None)), run(world, given, choices))
        for spot in range(len(choices)):
            with self.assertRaises(MissingChoice):
                run(world, given, choices[:spot])
            with self.assertRaises(InvalidChoice) as caught:
                run(world, given, (*choices[:spot], "nothing", *choices[spot + 1:]))
            self.assertEqual(caught.exception.spot, spot)


class SingleRuns(RunTests):

    def test_the_example(self):
        world, given = farm(), Program.read(EXAMPLE)
        self.assertEqual(run(world, given, ("Cat", "Cat")), ("done", ("Fish", "Dog", "Cat", "Cat", "Cat")))
        self.assertEqual(run(program=given, choices=("Dog", "Dog", "Bird"), world=world), ("done", ("Fish", "Dog", "Cat", "Dog", "Dog")))
        self.assertEqual(run(world, given, ("Fish",)), ("failed", 9))
        answer = run(world, given, ("Cat", "Dog"))
        self.assertEqual([type(part) for part in (answer, answer[1])], [tuple, tuple])

    def test_variables_without_values(self):
        world = farm()
        self.assertEqual(run(world, program("new x Cat", "match x", "case Dog", "new y Cat", "else", "new z Dog", "end"), ()),
                         ("done", ("Cat", None, "Dog")))
        for row, line in (("call x y eat", 1), ("call x x eat", 1), ("match x", 1)):
            rest = ["case Object", "else", "end"] if row == "match x" else []
            self.assertEqual(run(world, program(row, *rest), ()), ("failed", line))
        for row in ("call y x eat z", "call z z eat x", "call y x eat x"):
            self.assertEqual(run(world, program("new x Cat", row), ()), ("failed", 2))

    def test_a_call_can_change_its_own_variables(self):
        world = farm()
        given = program("new x Dog", "new y Cat", "call y x eat y", "call x x eat y")
        self.assertEqual(run(world, given, ("Fish", "Dog")), ("done", ("Dog", "Fish")))
        self.assertEqual(run(world, given, ("Cat", "Fish")), ("done", ("Fish", "Cat")))
        self.assertEqual(run(world, given, ("Dog",)), ("failed", 4))

    def test_choices_of_other_kinds(self):
        world, given = farm(), Program.read(EXAMPLE)
        for value in values_besides("Bird", "Eater", "Object", "cat", Shape.of_names("Cat"), Atom("Cat"), ("Cat",)):
            for spot, choices in enumerate([(value, "Cat"), ("Cat", value)]):
                with self.assertRaises(InvalidChoice) as caught:
                    run(world, given, choices)
                self.assertEqual((type(caught.exception.spot), caught.exception.spot), (int, spot))
            if not isinstance(value, tuple):
                with self.assertRaises(InvalidChoice) as caught:
                    run(world, given, value)
                self.assertIs(caught.exception.spot, None)
                self.assertEqual(run(world, given, ("Cat", "Cat", value)), ("done", ("Fish", "Dog", "Cat", "Cat", "Cat")))
        for value in (["Cat", "Cat"], {"Cat": 1}, "Cat", None):
            self.assertEqual(told(lambda: run(world, program("new x Cat"), value)), (InvalidChoice, None))

    def test_kinds_that_are_not_possible(self):
        world, given = farm(), Program.read(EXAMPLE)
        self.assertEqual(told(lambda: run(world, given, ("Cat", "Fish"))), (InvalidChoice, 1))
        given = program("new x Cat", "new f Fish", "call y x eat f", "call y x eat f", "call y x eat f")
        for choices, expected in (
            ((), (MissingChoice, 3)), (("Cat",), (MissingChoice, 4)), (("Cat", "Dog"), (MissingChoice, 5)),
            (("Fish",), (InvalidChoice, 0)), (("Cat", "Fish", None), (InvalidChoice, 1)), (("Cat", "Cat", "Fish"), (InvalidChoice, 2)),
            (("Cat", "Dog", "Cat"), ("done", ("Cat", "Fish", "Cat"))),
        ):
            self.assertEqual(told(lambda: run(world, given, choices)), expected)

    def test_a_choice_is_needed_even_if_there_is_only_one(self):
        given = program("new d Dog", "new f Fish", "call x d eat f")
        self.assertEqual(told(lambda: run(farm(), given, ())), (MissingChoice, 3))
        self.assertEqual(run(farm(), given, ("Dog",)), ("done", ("Dog", "Fish", "Dog")))

    def test_no_choice_is_needed(self):
        world = stairs()
        for rows, answer in (
            (["new x K0", "call y x stop", "call z y pick"], ("ended", 2)), (["new x K0", "call y x last"], ("failed", 2)),
            (["call y x pick"], ("failed", 1)), (["new x K0", "match x", "case K1", "call y x pick", "end"], ("failed", 2)),
        ):
            self.assertEqual(run(world, program(*rows), ()), answer)


class Environments(RunTests):

    def test_the_example(self):
        world, given = farm(), Program.read(EXAMPLE)
        self.assertEqual(list(environments(world, given, 9)), [("Fish", "Dog", "Cat", "Fish", None)])
        self.assertEqual(list(environments(line=1, world=world, program=given)), [(None,) * 5])
        self.assertEqual([row[3] for row in environments(world, given, 5)], ["Cat", "Dog", "Fish"])
        self.assertEqual([row[3] for row in environments(world, given, 7)], ["Cat", "Dog"])
        self.assertEqual([type(row) for row in environments(world, given, 5)], [tuple] * 3)

    def test_the_order(self):
        names = ["b", "B", "A", "a", "a_", "aa", "A1", "Z"]
        given = program("new x a", "call x x get", "match x", "case a", "else", "call y x get", "end", "new z a")
        expected = [("a", None, None)] + [(one, other, None) for one in names if one != "a" for other in names]
        for order in (names, names[::-1], sorted(names)):
            more = {"a": [Method("more", way("Never"))]}
            world = World(*[Kind(name, Method("get", way("Object")), *more.get(name, [])) for name in order])
            self.assertEqual(judge(world, given), ("accepted", ()))
            rows = list(environments(world, given, 8))
            self.assertEqual(rows, sorted(expected, key=lambda row: tuple(kind or "" for kind in row)))

    def test_variables_without_values_come_first(self):
        world = World(Kind("c"), Kind("b", Method("get", way("Object"))), Kind("a", Method("put", way("Object"))))
        given = program("new x b", "call y x get", "match y", "case a", "new z c", "case b", "new z a", "else", "end", "new y a")
        self.assertEqual(list(environments(world, given, 10)), [("b", "a", "c"), ("b", "b", "a"), ("b", "c", None)])
        given = program("new x b", "call y x get", "match y", "case a", "new z c", "case b", "new z a", "else", "end", "new y a", "new x a")
        self.assertEqual(list(environments(world, given, 11)), [("b", "a", None), ("b", "a", "a"), ("b", "a", "c")])

    def test_numbers_of_other_lines(self):
        world, given = farm(), Program.read(EXAMPLE)
        for line in (1, 2, 3, 4, 5, 7, 9):
            self.assertIs(type(list(environments(world, given, line))), list)
        for value in values_besides(6, 8, 10, 11, 60, 61, -10, "1", "new", (1,), [1], Shape.of_names("Cat"), given):
            if type(value) is int and value == 1:
                continue
            with self.assertRaises(InvalidNumber) as caught:
                next(iter(environments(world, given, value)))
            self.assertIs(caught.exception.value, value)

    def test_numbers_around_the_lines(self):
        for value in (0, -1, -2, 3, 10 ** 900):
            with self.assertRaises(InvalidNumber):
                list(environments(farm(), program("new x Cat", "new x Dog"), value))

    def test_nothing_is_kept_from_a_list(self):
        world, given = farm(), Program.read(EXAMPLE)
        rows = list(environments(world, given, 5))
        rows.append("Cat")
        self.assertEqual(len(list(environments(world, given, 5))), 3)


class ProgramCalls(RunTests):
    """k53: calls in programs agree with called."""

    def test_all_calls_of_random_worlds(self):
        seen = {"kinds": 0, "nothing": 0, "not taken": 0}
        for maker in [*random_makers(60, kinds=4), *random_makers(40, kinds=4, even=True, roles=1, methods=2)]:
            for _ in range(6):
                name, kinds = maker.use()
                receiver = maker.random.choice(maker.kinds)
                rows = [f"new a{spot} {kind}" for spot, kind in enumerate(kinds)]
                words = " ".join(["call x r", name, *[f"a{spot}" for spot in range(len(kinds))]])
                given = program(*rows, f"new r {receiver}", words, "new z " + receiver)
                line = len(rows) + 2
                found = list(environments(maker.world, given, line + 1))
                try:
                    expected = called(maker.world, (receiver,), name, *[(kind,) for kind in kinds])
                except NotTaken as error:
                    self.assertEqual(error.use, (receiver, (name, kinds)))
                    self.assertEqual(judge(maker.world, given), ("refused", line, ()))
                    self.assertEqual(run(maker.world, given, ()), ("failed", line))
                    self.assertEqual(found, [])
                    seen["not taken"] += 1
                    continue
                self.assertEqual([row[given.slots.index("x")] for row in found], sorted(expected))
                self.assertEqual(judge(maker.world, given), ("accepted", () if expected else (line + 1,)))
                for kind in maker.kinds:
                    answer = told(lambda: run(maker.world, given, (kind,)))
                    if not expected:
                        self.assertEqual(answer, ("ended", line))
                    elif kind not in expected:
                        self.assertEqual(answer, (InvalidChoice, 0))
                    else:
                        self.assertEqual(answer[0], "done")
                seen["kinds" if expected else "nothing"] += 1
        self.assertGreater(min(seen.values()), 5, seen)

    def test_calls_of_several_kinds(self):
        """The kinds behind a call are those of called for all kinds that reach it."""
        for maker in random_makers(80, kinds=4, even=True, roles=1, methods=2):
            name, many = maker.random.choice([("get", 0), ("put", 1)])
            start = maker.random.choice(maker.kinds)
            try:
                reach = called(maker.world, (start,), "get")
            except NotTaken:
                continue
            given = program(f"new s {start}", "call x s get", " ".join(["call y x", name, *["s"] * many]), f"new z {start}")
            try:
                expected = called(maker.world, reach, name, *[(start,)] * many)
            except NotTaken as error:
                if reach:
                    word, line, choices = judge(maker.world, given)
                    self.assertEqual((word, line), ("refused", 3))
                    self.assertEqual(len(choices), 1)
                    with self.assertRaises(NotTaken):
                        called(maker.world, choices, name, *[(start,)] * many)
                    self.assertIn(error.use[0], reach)
                continue
            self.assertEqual({row[2] for row in environments(maker.world, given, 4)}, set(expected))

    def test_matches_agree_with_narrower(self):
        for maker in random_makers(80, kinds=4):
            cases = [maker.shape(1) for _ in range(maker.random.randint(1, 4))]
            narrower = Narrower(maker.world, *cases)
            for kind in maker.kinds:
                rows = [row for number, case in enumerate(cases) for row in (f"case {case.text}", f"new y {maker.kinds[number % 4]}")]
                given = program(f"new x {kind}", "match x", *rows, "end")
                goes = narrower.case_of(kind)
                if goes is None:
                    self.assertEqual(judge(maker.world, given), ("refused", 2, ()))
                    given = program(f"new x {kind}", "match x", *rows, "else", "new z " + kind, "end")
                    self.assertEqual(run(maker.world, given, ()), ("done", (kind, None, kind)))
                else:
                    self.assertEqual(run(maker.world, given, ()), ("done", (kind, maker.kinds[goes % 4])))


class FirstErrors(RunTests):

    def test_lines_that_are_not_right(self):
        world = farm()
        rows = ["call a b m", "match x", "case Cat", "new y Cat", "end", "new x Cat"]
        for row, expected in (
            ("new x Bird", (UnknownName, "Bird")), ("new x Eater", (UnknownName, "Eater")), ("new x Object", (UnknownName, "Object")),
            ("match x\ncase Bird\nend", (UnknownName, "Bird")), ("match x\ncase Cat | Eater[Bird]\nend", (WrongArguments, "Eater")),
            ("match x\ncase Cat\nmatch y\ncase Cat[Dog]\nend\nend", (WrongArguments, "Cat")),
        ):
            self.all_raise(expected, world, program(*rows, row), (1, 2, 4, None, "x", 600))
            self.all_raise(expected, world, program(row, *rows), (1, None))
            self.all_raise(expected, world, program(*rows, row, "new z Nothing", "match x", "case Nothing", "end"))

    def test_line_by_line(self):
        for order in itertools.permutations(("A", "B", "C", "D")):
            rows = [f"match x\ncase Cat | {name}\nend" if name in "AB" else f"new x {name}" for name in order]
            self.all_raise((UnknownName, order[0]), farm(), program("call x y eat", *rows))

    def test_choices_and_numbers_come_behind(self):
        world = farm()
        for value in (None, [], "Cat", ("Bird",)):
            self.assertEqual(told(lambda: run(world, program("new x Bird"), value)), (UnknownName, "Bird"))
            self.assertEqual(told(lambda: list(environments(world, program("new x Bird"), value))), (UnknownName, "Bird"))

    def test_errors_before_anything_is_yielded(self):
        """The exception comes at the call, or with the first item."""
        with self.assertRaises(UnknownName):
            next(iter(environments(farm(), program("new x Cat", "new x Bird"), 1)))


def limited(last, *behind):
    """A program with 2,000 environments behind a match if the last kind ends, and otherwise 2,001."""
    rows = ["new f K10", "call a f pick", "match a", "case K11", last, "else", "new f K2", "call b f pick", "call c f pick",
            "call d f pick", "new f K10", "call e f pick", "end"]
    return program(*rows, *behind)


class Limits(RunTests):

    def test_the_limit(self):
        self.assertEqual(MAX_ENVIRONMENTS, 2000)

    def test_2000_environments(self):
        world = stairs()
        for behind in ([], ["new a K0"], ["new a K0", "match b", "case L2", "new b K0", "end"]):
            given = limited("call b a stop", *behind)
            self.assertEqual(judge(world, given), ("accepted", ()))
            for number, line in enumerate(given.text.split("\n"), start=1):
                if line.split(" ")[0] in ("new", "call", "match"):
                    rows = list(environments(world, given, number))
                    self.assertEqual(rows, sorted(rows, key=lambda row: tuple(kind or "" for kind in row)))
                    self.assertEqual(len(set(rows)), len(rows))
        given = limited("call b a stop", "new a K0", "match b", "case L2", "new b K0", "end")
        self.assertEqual([len(list(environments(world, given, line))) for line in (14, 15, 17)], [2000, 2000, 2000])

    def test_2001_environments(self):
        """More environments than the limit reach the line behind the match, or are reached behind the last line."""
        world = stairs()
        for behind in ([], ["new a K0"], ["call a a pick"], ["match a", "case K0", "end"], ["new f K0", "new b K0", "new c K0"]):
            given = limited("new b K11", *behind)
            for _ in range(2):
                self.assertEqual(told(lambda: judge(world, given)), (TooLarge, 2000))
                for line in (1, 2, 7, 12):
                    self.assertEqual(told(lambda: list(environments(world, given, line))), (TooLarge, 2000))
                for value in (4, 13, None, 1.5, True):
                    self.assertEqual(told(lambda: list(environments(world, given, value))), (InvalidNumber, value))

    def test_behind_a_line_that_is_too_large(self):
        """Fewer environments later, and a failure before, do not help."""
        world = stairs()
        given = limited("new b K11", "new b K0", "new c K0", "new d K0", "new e K0", "call f f last", "call f f nothing")
        self.assertEqual(told(lambda: judge(world, given)), (TooLarge, 2000))
        given = program("new f K0", "call a f pick", "match a", "case K11", "new b K1", "call c b last", "case K0", "new f K0", "call b f pick",
                        "call c f pick", "call d f pick", "call e f pick", "end")
        self.assertEqual(told(lambda: judge(world, given)), (TooLarge, 2000))
        self.assertEqual(run(world, given, ("K11",)), ("failed", 6))

    def test_the_same_environments_count_once(self):
        """Each environment counts once for a line, on however many ways runs come there."""
        world = stairs()
        rows = ["new f K2", "call b f pick", "call c f pick", "call d f pick"]
        given = program(*rows, *["call d f pick", "call c f pick", "call b f pick"] * 15)
        self.assertEqual(judge(world, given), ("accepted", ()))
        self.assertEqual(len(list(environments(world, given, 40))), 1000)
        given = program(*rows, *["match b", "case K11", "case K9", "case L2", "end"] * 8, "new e K0")
        self.assertEqual(len(list(environments(world, given, 45))), 1000)

    def heavy(self):
        """A world in which the members of A | D are not told, for the kind J reaches too many pairs."""
        large = Way(Shape(*numbered("Box", 2001)))
        return World(*cycles().declarations, Kind("J", Method("next", large)), Kind("K", Method("get", way("A | D"))),
                     Kind("L", Method("get", way("Object")), Method("set", way("A | D"))))

    def test_members_of_cases_that_no_run_reaches(self):
        world = self.heavy()
        with self.assertRaises(TooLarge):
            members(world, read("A | D"))
        given = program("call x y m", "match x", "case Never", "match x", "case A | D", "end", "end")
        self.all_raise((TooLarge, 2000), world, given, (1, 2, None))
        self.all_raise((TooLarge, 2000), world, program("call x y m", "match x", "case A | D", "end", "new x Nothing"))
        self.all_raise((UnknownName, "Nothing"), world, program("new x Nothing", "match x", "case A | D", "end"))
        for value in (None, "A", ("A",)):
            self.assertEqual(told(lambda: run(world, given, value)), (TooLarge, 2000))

    def test_results_of_calls(self):
        world = self.heavy()
        given = program("new k K", "call x k get", "new y K")
        self.all_raise((TooLarge, 2000), world, given, (1, 2, 3))
        self.assertEqual(told(lambda: run(world, given, ("A",))), (TooLarge, 2000))
        self.assertEqual(told(lambda: run(world, given, None)), (InvalidChoice, None))
        self.assertEqual(told(lambda: list(environments(world, given, 4))), (InvalidNumber, 4))

    def test_results_are_looked_at_only_where_runs_come(self):
        world = self.heavy()
        given = program("new k K", "match k", "case L", "call x k get", "else", "new l L", "end", "call y l set k", "call x k get")
        self.assertEqual(judge(world, given), ("refused", 8, ()))
        self.assertEqual(run(world, given, ()), ("failed", 8))
        self.assertEqual(list(environments(world, given, 9)), [])
        given = program("new l L", "call x l get", "match x", "case L", "call y x set", "else", "end")
        self.assertEqual(run(world, given, ("K",)), ("done", ("L", "K", None)))
        for call in (lambda: run(world, given, ("L", "A")), lambda: judge(world, given), lambda: list(environments(world, given, 2))):
            self.assertEqual(told(call), (TooLarge, 2000))

    def test_failures_do_not_hide_results_that_are_too_large(self):
        world = self.heavy()
        given = program("new l L", "call x l get", "match x", "case L", "call y l set", "else", "call y x nothing", "end")
        self.assertEqual(told(lambda: judge(world, given)), (TooLarge, 2000))
        given = program("new l L", "call x l get", "match x", "case L", "call y x nothing", "else", "call y l set", "end")
        self.assertEqual(told(lambda: judge(world, given)), (TooLarge, 2000))
        self.assertEqual(run(world, given, ("L",)), ("failed", 5))


if __name__ == "__main__":
    unittest.main()
