"""The examples of the document, as they stand there, and those of README.md.

>>> from shapetypes.shapes import Atom, Shape
>>> shape = Shape.read("Source[Dog | Cat] | Cat")
>>> shape.text, len(shape), Atom("Cat") in shape, (shape | Atom("Dog")).text, Shape.of_names("Cat") <= shape, Shape().text
('Cat | Source[Cat | Dog]', 2, True, 'Cat | Dog | Source[Cat | Dog]', True, 'Never')

>>> from shapetypes.declarations import Kind, Method, Role, Way
>>> from shapetypes.shapes import Shape
>>> cat = Kind("Cat", Method("eat", Way(Shape.read("Cat"), Shape.read("Fish"))))
>>> source = Role("Source", Method("get", Way(Shape.read("T"))), T="out")
>>> cat.methods[0].ways[0].gives.text, cat.methods[0].ways[0].parameters[0].text, source.marks
('Cat', 'Fish', (('T', 'out'),))
"""

import doctest
import pathlib
import unittest

README = pathlib.Path(__file__).parent.parent / "README.md"


class Examples(unittest.TestCase):

    def run_examples(self, text, least):
        test = doctest.DocTestParser().get_doctest(text, {}, "examples", None, 0)
        told = []
        result = doctest.DocTestRunner(verbose=False).run(test, out=told.append)
        self.assertGreaterEqual(result.attempted, least)
        self.assertEqual(result.failed, 0, "".join(told))

    def test_document(self):
        self.run_examples(__doc__, 8)

    def test_readme(self):
        # Doctest reads the closing fence of a block as an expected line.
        text = README.read_text(encoding="utf-8").replace("```", "")
        self.run_examples(text, 4)


if __name__ == "__main__":
    unittest.main()
