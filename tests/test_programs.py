"""Program.read: texts of programs (k65), and everything that it refuses (k66)."""

import time
import unittest

from makers import random_makers
from program_makers import ProgramMaker, changed
from program_oracle import parsed
from shapetypes.errors import ParseError
from shapetypes.programs import Program
from shapetypes.shapes import Atom, Shape
from values import large_shape, shared_dict, shared_list, shared_tuple, values_besides

EXAMPLE = "new f Fish\nnew d Dog\nnew c Cat\ncall x d eat c\nmatch x\ncase Eater\ncall y x eat f\nelse\ncall y x eat f\nend"


def nested(many):
    """The rows of so many matches, each one within the others."""
    return ["match x", "case Cat"] * many + ["end"] * many


def text_of(rows):
    return "\n".join(rows)


class Reading(unittest.TestCase):

    def test_the_example(self):
        program = Program.read(EXAMPLE)
        self.assertIs(type(program), Program)
        self.assertEqual((program.text, len(program), program.slots), (EXAMPLE, 10, ("f", "d", "c", "x", "y")))
        self.assertEqual((type(program.text), type(program.slots)), (str, tuple))
        self.assertEqual(Program.read(text=EXAMPLE).text, EXAMPLE)

    def test_sizes_are_class_values(self):
        self.assertEqual((Program.MAX_LINES, Program.MAX_VARIABLES, Program.MAX_NESTING), (60, 6, 5))
        program = Program.read("new x Cat")
        self.assertEqual((program.MAX_LINES, program.MAX_VARIABLES, program.MAX_NESTING), (60, 6, 5))

    def test_properties_are_not_assigned(self):
        program = Program.read("new x Cat")
        for name in ("text", "slots"):
            with self.assertRaises(AttributeError):
                setattr(program, name, "y")

    def test_slots_word_by_word(self):
        for text, slots in (
            ("new x Cat", ("x",)), ("match z\ncase Cat\nend", ("z",)), ("call a b c", ("a", "b")),
            ("call b a c d e", ("b", "a", "d", "e")), ("call a a a a a", ("a",)), ("call a b a c b", ("a", "b", "c")),
            ("match b\ncase Cat\nnew a Cat\nelse\ncall c a run b\nend\nnew d Cat", ("b", "a", "c", "d")),
            ("new new new\ncall call match end case\nmatch else\ncase end\nend", ("new", "call", "match", "case", "else")),
            ("new A_1 Object\nnew a_1 T\nnew " + "x" * 20 + " " + "y" * 20, ("A_1", "a_1", "x" * 20)),
        ):
            program = Program.read(text)
            self.assertEqual(program.slots, slots)
            self.assertEqual(len(program), text.count("\n") + 1)

    def test_blocks(self):
        for rows in (
            ["match x", "case Cat", "end"], ["match x", "case Cat", "case Dog", "else", "end"],
            ["match x", "case Cat", "new y Cat", "case Never", "else", "new y Cat", "end", "new z Cat"],
            ["match x", "case Cat", "match x", "case Dog", "else", "end", "else", "match x", "case Dog", "end", "end"],
            ["match x", "case Cat", "match y", "case Dog", "case Cat", "end", "case Dog", "end"], nested(5),
            nested(5) + nested(5), ["match x", "case Cat"] + nested(4) + ["case Cat", *nested(4), "else", *nested(4), "end"],
        ):
            self.assertEqual(len(Program.read(text_of(rows))), len(rows))

    def test_texts_of_shapes(self):
        for text in (
            "Cat", "Never", "Object", "Dog | Cat", "Cat | Cat", "Source[Cat | Dog, Never] | Box[Never]", "x", "case", "end",
            "A[A[A[A[A[A[B]]]]]]", "Cat | " * 333 + "Ab", "A" + " | A" * 499,
        ):
            program = Program.read(f"match x\ncase {text}\nend")
            self.assertEqual((len(program), program.slots), (3, ("x",)))
        for many in (2000, 2001):
            text = ("Cat | " * 400)[:1998 - 6] + "Cats" + "s" * (many - 1996)
            self.assertEqual(len(text), many)
            rows = f"new x Cat\nmatch x\ncase {text}\nend"
            if many == 2000:
                self.assertEqual(Program.read(rows).text, rows)
            else:
                self.refused(rows, 3, 2)

    def refused(self, text, line, word):
        with self.assertRaises(ParseError) as caught:
            Program.read(text)
        error = caught.exception
        self.assertEqual((type(error.line), error.line, type(error.word), error.word), (int, line, int, word), text)

    def test_sixty_lines(self):
        rows = ["new x Cat"] * 60
        self.assertEqual(len(Program.read(text_of(rows))), 60)
        self.assertEqual(len(Program.read(text_of(rows[:45] + nested(5)))), 60)
        for row in ("new x Cat", "", " ", "new  x", "end", "nothing", "x" * 15000):
            self.refused(text_of([*rows, row]), 61, 1)
            self.refused(text_of([*rows, row, "", "new"]), 61, 1)
        self.refused(text_of(rows) + "\n", 61, 1)
        self.refused("\n".join(["new x Cat"] * 2000), 61, 1)
        self.refused(text_of([*rows[:59], "new x", "new x Cat"]), 60, 3)
        self.refused(text_of([*rows[:59], "", ""]), 60, 0)
        self.refused("\n" * 20000, 1, 0)

    def test_sixty_lines_within_a_match(self):
        self.refused(text_of(["new x Cat"] * 58 + ["match x", "case Cat"]), 61, 1)
        self.refused(text_of(["new x Cat"] * 58 + ["match x", "case Cat", "end"]), 61, 1)
        self.assertEqual(len(Program.read(text_of(["new x Cat"] * 57 + ["match x", "case Cat", "end"]))), 60)

    def test_six_variables(self):
        rows = [f"new x{number} Cat" for number in range(6)]
        self.assertEqual(Program.read(text_of(rows)).slots, tuple(f"x{number}" for number in range(6)))
        for row, word in (
            ("new y Cat", 2), ("new y 1", 2), ("new x1 y", None), ("call y x1 m", 2), ("call x1 y m", 3), ("call x1 x2 y", None),
            ("call x1 x2 m y", 5), ("call x1 x2 m x3 y", 6), ("call x1 x2 m y 1", 5), ("call x1 x2 m 1 y", 5),
            ("call x1 x2 m x3 y z", 6), ("match y", 2), ("match y z", 2), ("match X1", 2),
        ):
            if word is None:
                self.assertEqual(len(Program.read(text_of([*rows, row])).slots), 6)
            else:
                self.refused(text_of([*rows, row]), 7, word)
        self.assertEqual(len(Program.read("call a b m c d\ncall e f m a b").slots), 6)
        self.refused("call a b m c d\ncall e f m a g", 2, 6)
        self.refused("match a\ncase A\nnew b A\ncase B\nnew c A\nelse\nnew d A\nend\nnew e A\nnew f A\nnew g A", 11, 2)

    def test_five_matches(self):
        self.refused(text_of(nested(6)), 11, 1)
        self.refused(text_of(["match x", "case Cat"] * 5 + ["match"]), 11, 1)
        self.refused(text_of(["match x", "case Cat"] * 5 + ["match 1 2"]), 11, 1)
        self.refused(text_of(["match x", "case Cat"] * 5 + ["match  x"]), 11, 0)
        self.refused(text_of(["match x", "case Cat"] * 5 + ["end", "match x", "case Cat", "match x"]), 14, 1)
        self.refused(text_of(["match x", "case Cat", "else"] + nested(5)), 12, 1)

    def test_spaces(self):
        for row in (" new x Cat", "new x Cat ", "new  x Cat", "new x  Cat", "new x Cat  Dog", " ", "  ", "call x  y m", "end ",
                    " 1", "1  2", "new x Cat                ", "x" * 5000 + " "):
            self.refused(row, 1, 0)
            self.refused(row + "\nnew x Cat", 1, 0)
            self.refused("new x Cat\n" + row, 2, 0)
        for row in ("case  Cat", "case Cat ", " case Cat", "case Cat |  Dog", "case A[B,  C]", "case 1  2", "case "):
            self.refused("match x\n" + row + "\nend", 2, 0)

    def test_empty_lines(self):
        self.refused("", 1, 0)
        self.refused("\n", 1, 0)
        self.refused("\nnew x Cat", 1, 0)
        self.refused("new x Cat\n", 2, 0)
        self.refused("new x Cat\n\nnew x Cat", 2, 0)
        self.refused("match x\n", 2, 0)
        self.refused("match x\ncase Cat\nend\n", 4, 0)

    def test_first_words(self):
        for row in ("New x Cat", "news x Cat", "x", "1", "new, x Cat", "Never", "end", "else", "case Cat", "case", "CALL x y m",
                    "end end", "matches x", "|", "[", "new\tx Cat"):
            self.refused(row, 1, 1)
            self.refused("new x Cat\n" + row, 2, 1)
            self.refused("match x\ncase Cat\nend\n" + row, 4, 1)
            if not row.startswith("case"):
                self.refused("match x\n" + row, 2, 1)
            if row.split(" ")[0] not in ("case", "else", "end"):
                self.refused("match x\ncase Cat\n" + row, 3, 1)

    def test_lines_behind_a_match(self):
        for row in ("new x Cat", "call x y m", "match x", "else", "end", "cases Cat", "new", "end x"):
            self.refused("match x\n" + row, 2, 1)
            self.refused("match x\ncase Cat\nmatch y\n" + row, 4, 1)

    def test_lines_behind_else(self):
        start = "match x\ncase Cat\nelse\n"
        for row in ("case Cat", "case", "else", "else x", "case 1"):
            self.refused(start + row, 4, 1)
            self.refused(start + "new x Cat\n" + row, 5, 1)
            self.refused(start + "match x\ncase Cat\nelse\nend\n" + row, 8, 1)
            self.refused(start + "match x\ncase Cat\nend\n" + row, 7, 1)
        self.refused(start + "end\nelse", 5, 1)

    def test_words_that_are_missing(self):
        for row, word in (("new", 2), ("new x", 3), ("call", 2), ("call x", 3), ("call x y", 4), ("match", 2)):
            self.refused(row, 1, word)
            self.refused(row + "\n\n", 1, word)
            self.refused("new x Cat\n" + row, 2, word)
        self.refused("match x\ncase", 2, 2)
        self.refused("match x\ncase Cat\ncase\nend", 3, 2)

    def test_words_in_excess(self):
        for row, word in (
            ("new x Cat Dog", 4), ("new x Cat 1 2", 4), ("call x y m a b c", 7), ("call x y m a b 1", 7), ("match x y", 3),
            ("match x case", 3), ("new" + " x" * 5000, 4), ("call" + " x" * 5000, 7),
        ):
            self.refused(row, 1, word)
        for row in ("else x", "end x", "end end", "else else case"):
            self.refused("match x\ncase Cat\n" + row, 3, 2)

    def test_words_that_are_no_names(self):
        for name in ("Never", "1", "1a", "_a", "a-b", "a" * 21, "|", "[", "Box[Cat]", "a,", "a.b", "a" * 10000):
            for row, word in (
                (f"new {name} Cat", 2), (f"new x {name}", 3), (f"call {name} y m", 2), (f"call x {name} m", 3),
                (f"call x y {name}", 4), (f"call x y m {name}", 5), (f"call x y m a {name}", 6), (f"match {name}", 2),
                (f"new {name}", 2), (f"new {name} {name}", 2), (f"call {name} {name} {name}", 2), (f"call x y {name} {name}", 4),
                (f"call x y m {name} b c", 5), (f"match {name} x", 2),
            ):
                self.refused(row, 1, word)
                self.refused("new x Cat\n" + row + "\nnew", 2, word)

    def test_texts_that_are_no_shapes(self):
        for text in ("1", "Cat |", "Cat | ", "Cat|Dog", "Cat Dog", "Cat | Never", "Never | Never", "Box[]", "Box[Cat", "Box[Cat]]",
                     "Box[Cat,Dog]", "A[A[A[A[A[A[A[B]]]]]]]", "Cat, Dog", "| Cat", "[Cat]", "_", "a" * 21, "A" + " | A" * 500):
            line, word = (2, 0) if text.endswith(" ") else (2, 2)
            self.refused(f"match x\ncase {text}\nend", line, word)
            self.refused(f"match x\ncase {text}\nnothing", line, word)

    def test_texts_that_end_within_a_match(self):
        for text, line in (
            ("match x", 2), ("match x\ncase Cat", 3), ("match x\ncase Cat\nelse", 4), ("match x\ncase Cat\nmatch x\ncase Cat\nend", 6),
            ("new x Cat\nmatch x\ncase Cat\nnew y Cat", 5),
        ):
            self.refused(text, line, 1)

    def test_the_first_word_counts(self):
        self.refused("new 1 2\n\nnothing", 1, 2)
        self.refused("new x 2\nnew 1 x", 1, 3)
        self.refused("new x y\nmatch x\nnew 1  x", 3, 0)
        self.refused("match x\ncase 1\nelse 1", 2, 2)
        self.refused("call 1 y\nend", 1, 2)

    def test_values_of_other_kinds(self):
        others = [Program.read("new x Cat"), Shape.of_names("Cat"), Atom("Cat"), large_shape(), Program, ["new x Cat"],
                  ("new x Cat",), b"new x Cat", {"new x Cat": 1}]
        start = time.perf_counter()
        for value in values_besides(*others):
            if isinstance(value, str):
                with self.assertRaises(ParseError):
                    Program.read(value)
            else:
                self.refused(value, 0, 0)
        for value in (shared_tuple(), shared_list(), shared_dict()):
            self.refused(value, 0, 0)
        self.assertLess(time.perf_counter() - start, 10)

    def test_random_texts(self):
        told = {}
        for maker in random_makers(150, kinds=4):
            made = ProgramMaker(maker, maker.random.randint(1, 6))
            text = made.text()
            for _ in range(20):
                expected = parsed(text)
                try:
                    program = Program.read(text)
                    self.assertEqual(list(program.slots), expected, text)
                    self.assertEqual((program.text, len(program)), (text, len(text.split("\n"))))
                    told["read"] = told.get("read", 0) + 1
                except ParseError as error:
                    self.assertEqual((error.line, error.word), expected, text)
                    told[error.word] = told.get(error.word, 0) + 1
                text = changed(text, maker.random)
        for word in ("read", 0, 1, 2, 3, 4, 5):
            self.assertGreater(told[word], 5, told)


class Programs(unittest.TestCase):

    def test_equality(self):
        texts = ["new x Cat", "new x Dog", "new y Cat", "new x Cat\nnew x Cat", "match x\ncase A | B\nend",
                 "match x\ncase B | A\nend"]
        for one in texts:
            for other in texts:
                self.assertIs(Program.read(one) == Program.read(other), one == other)
                self.assertIs(Program.read(one) != Program.read(other), one != other)

    def test_equality_with_other_values(self):
        program = Program.read("new x Cat")
        for value in values_besides("new x Cat", Shape.of_names("Cat"), Atom("Cat"), ("new x Cat",)):
            self.assertIs(program == value, False)
            self.assertIs(value == program, False)
            self.assertIs(program != value, True)
            self.assertIs(value != program, True)

    def test_no_other_operators(self):
        program = Program.read("new x Cat")
        for operate in (lambda a, b: a < b, lambda a, b: a <= b, lambda a, b: a > b, lambda a, b: a >= b,
                        lambda a, b: a + b, lambda a, b: a | b, lambda a, b: a & b, lambda a, b: a in b):
            for value in (program, "x", 1, None):
                with self.assertRaises(TypeError):
                    operate(value, program)
        with self.assertRaises(TypeError):
            program[0]


if __name__ == "__main__":
    unittest.main()
