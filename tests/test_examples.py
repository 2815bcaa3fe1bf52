"""The examples of the document, as they stand there, and those of README.md.

>>> from shapetypes.shapes import Atom, Shape
>>> shape = Shape.read("Source[Dog | Cat] | Cat")
>>> shape.text, len(shape), Atom("Cat") in shape, (shape | Atom("Dog")).text, Shape.of_names("Cat") <= shape, Shape().text
('Cat | Source[Cat | Dog]', 2, True, 'Cat | Dog | Source[Cat | Dog]', True, 'Never')

>>> from shapetypes.declarations import Kind, Method, Role, Way
>>> from shapetypes.shapes import Shape
>>> cat = Kind("Cat", Method("eat", Way(Shape.read("Cat"), Shape.read("Fish"))))
>>> source = Role("Source", Method("get", Way(Shape.read("T"))), T="out")
>>> cat.methods[0].ways[0].gives.text, cat.methods[0].ways[0].parameters[0].text, source.marks
('Cat', 'Fish', (('T', 'out'),))

>>> from shapetypes.declarations import Kind, Method, Role, Way
>>> from shapetypes.shapes import Shape
>>> from shapetypes.worlds import World, least_marks
>>> read = Shape.read
>>> cat, fish = Kind("Cat", Method("eat", Way(read("Cat"), read("Fish")))), Kind("Fish")
>>> world = World(cat, fish, Role("Box", Method("get", Way(read("T"))), Method("put", Way(read("Object"), read("T"))), T="both"))
>>> world.allows(read("Cat"), ("eat", ("Fish",)), ("eat", ("Cat",))), world.result(read("Box[Cat | Fish]"), ("get", ())).text, least_marks(world, "Box"), list(world.each_use(read("Box[Fish]")))
(False, 'Cat | Fish', ('both',), [('get', ()), ('put', ('Fish',))])

>>> from shapetypes.declarations import Kind, Method, Role, Way
>>> from shapetypes.fitting import check_decision, decide, fits
>>> from shapetypes.shapes import Shape
>>> from shapetypes.worlds import World
>>> read = Shape.read
>>> cat = Kind("Cat", Method("eat", Way(read("Cat"), read("Fish"))))
>>> dog = Kind("Dog", Method("eat", Way(read("Dog"), read("Fish | Cat"))))
>>> world = World(cat, dog, Kind("Fish"), Role("Eater", Method("eat", Way(read("Eater"), read("Fish")))))
>>> fits(world, read("Cat | Dog"), read("Eater")), fits(world, read("Dog"), read("Cat")), decide(world, read("Cat"), read("Dog")), len(decide(world, read("Cat"), read("Eater"))[1])
(True, True, ('use', (('eat', ('Cat',)),)), 1)

>>> from shapetypes.declarations import Kind, Method, Role, Way
>>> from shapetypes.members import Narrower, members
>>> from shapetypes.shapes import Shape
>>> from shapetypes.worlds import World
>>> read = Shape.read
>>> cat = Kind("Cat", Method("eat", Way(read("Cat"), read("Fish"))))
>>> dog = Kind("Dog", Method("eat", Way(read("Dog"), read("Fish")), Way(read("Object"), read("Fish | Cat"))))
>>> world = World(cat, dog, Kind("Fish"), Role("Eater", Method("eat", Way(read("Eater"), read("Fish")))))
>>> narrower = Narrower(world, read("Dog"), read("Eater"))
>>> members(world, read("Eater")), narrower(("Fish", "Dog", "Cat")), narrower.case_of("Cat"), narrower.is_complete(("Cat", "Dog"))
(('Cat', 'Dog'), (('Dog',), ('Cat',), ('Fish',)), 1, True)

>>> from shapetypes.calls import called, dead_ways, overlaps
>>> from shapetypes.declarations import Kind, Method, Role, Way
>>> from shapetypes.shapes import Atom, Shape
>>> from shapetypes.worlds import World
>>> read = Shape.read
>>> cat = Kind("Cat", Method("eat", Way(read("Cat"), read("Fish"))))
>>> dog = Kind("Dog", Method("eat", Way(read("Dog"), read("Fish")), Way(read("Object"), read("Fish | Cat"))))
>>> world = World(cat, dog, Kind("Fish"), Role("Eater", Method("eat", Way(read("Eater"), read("Fish")))))
>>> called(world, ("Cat", "Dog"), "eat", ("Fish",)), called(world, ("Dog",), "eat", ("Cat",)), dead_ways(world, Atom("Dog")), list(overlaps(world, Atom("Dog"), "eat"))
(('Cat', 'Dog'), ('Cat', 'Dog', 'Fish'), (), [(0, 1, ('Fish',))])

>>> from shapetypes.declarations import Kind, Method, Role, Way
>>> from shapetypes.programs import Program
>>> from shapetypes.runs import environments, judge, run
>>> from shapetypes.shapes import Shape
>>> from shapetypes.worlds import World
>>> read = Shape.read
>>> cat = Kind("Cat", Method("eat", Way(read("Cat"), read("Fish"))))
>>> dog = Kind("Dog", Method("eat", Way(read("Dog"), read("Fish")), Way(read("Object"), read("Fish | Cat"))))
>>> world = World(cat, dog, Kind("Fish"), Role("Eater", Method("eat", Way(read("Eater"), read("Fish")))))
>>> program = Program.read("new f Fish\\nnew d Dog\\nnew c Cat\\ncall x d eat c\\nmatch x\\ncase Eater\\ncall y x eat f\\nelse\\ncall y x eat f\\nend")
>>> judge(world, program), run(world, program, ("Cat", "Cat")), list(environments(world, program, 9))
(('refused', 9, ('Fish',)), ('done', ('Fish', 'Dog', 'Cat', 'Cat', 'Cat')), [('Fish', 'Dog', 'Cat', 'Fish', None)])

>>> from shapetypes.declarations import Kind, Method, Role, Way
>>> from shapetypes.live import PledgedWorld
>>> from shapetypes.shapes import Shape
>>> read = Shape.read
>>> live = PledgedWorld(Kind("Fish"))
>>> live.add(Role("Eater", Method("eat", Way(read("Eater"), read("Fish")))))
>>> live.add(Kind("Cat", Method("eat", Way(read("Cat"), read("Fish")))))
>>> live.pledge(read("Cat"), read("Eater"))
>>> live.undo()
>>> live.drop("Cat")
>>> live.world.kinds, "Eater" in live, len(live), live.accepts(Kind("Fish")), [change[0] for change in live.log]
(('Fish',), True, 2, False, ['add', 'add', 'drop'])

>>> from shapetypes.declarations import Kind, Method, Role, Way
>>> from shapetypes.shapes import Shape
>>> from shapetypes.tables import fit_table
>>> from shapetypes.worlds import World
>>> read = Shape.read
>>> cat = Kind("Cat", Method("eat", Way(read("Cat"), read("Fish"))))
>>> dog = Kind("Dog", Method("eat", Way(read("Dog"), read("Fish")), Way(read("Object"), read("Fish | Cat"))))
>>> world = World(cat, dog, Kind("Fish"), Role("Eater", Method("eat", Way(read("Eater"), read("Fish")))))
>>> fit_table(world, read("Dog"), read("Cat"), read("Fish"))
'     1  2  3\\n  1  +  +  +\\n  2  -  +  +\\n  3  -  -  +'
"""

import doctest
import pathlib
import unittest

README = pathlib.Path(__file__).parent.parent / "README.md"


class Examples(unittest.TestCase):

    def run_examples(self, text, least):
        test = doctest.DocTestParser().get_doctest(text, {}, "examples", None, 0)
        told = []
        result = doctest.DocTestRunner(verbose=False).run(test, out=told.append)
        self.assertGreaterEqual(result.attempted, least)
        self.assertEqual(result.failed, 0, "".join(told))

    def test_document(self):
        self.run_examples(__doc__, 74)

    def test_readme(self):
        # Doctest reads the closing fence of a block as an expected line.
        text = README.read_text(encoding="utf-8").replace("```", "")
        self.run_examples(text, 4)


if __name__ == "__main__":
    unittest.main()
