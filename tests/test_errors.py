"""The exceptions: their fields, and their base class."""

import unittest

from shapetypes import errors
from values import large_shape, values_besides

FIELDS = {
    "InvalidAtom": ("part",), "InvalidShape": ("spot",), "InvalidText": ("value",),
    "InvalidDeclaration": ("rule", "item"), "InvalidWorld": ("rule", "item"), "UnknownName": ("word",),
    "WrongArguments": ("word",), "InvalidUse": ("spot",), "NotAllowed": ("spot",), "InvalidAnswer": ("part",),
    "TooLarge": ("limit",), "InvalidKinds": ("part", "spot"), "NotTaken": ("use",), "InvalidChoice": ("spot",),
    "MissingChoice": ("line",), "InvalidNumber": ("value",), "LimitExceeded": ("limit",), "Broken": ("number",),
    "NothingToUndo": (), "ParseError": ("line", "word"),
}
LEFT_OUT = {"InvalidDeclaration": "item", "InvalidWorld": "item", "InvalidKinds": "spot"}


class Errors(unittest.TestCase):

    def test_all_are_direct_subclasses(self):
        self.assertEqual(errors.ShapetypesError.__bases__, (ValueError,))
        for name in FIELDS:
            self.assertEqual(getattr(errors, name).__bases__, (errors.ShapetypesError,), name)

    def test_there_are_no_others(self):
        found = [name for name in vars(errors) if isinstance(getattr(errors, name), type)]
        self.assertEqual(sorted(found), sorted([*FIELDS, "ShapetypesError"]))

    def test_fields_are_the_very_objects_by_position_and_by_name(self):
        for name, fields in FIELDS.items():
            for value in values_besides(large_shape()):
                passed = {field: value for field in fields}
                for error in (getattr(errors, name)(*passed.values()), getattr(errors, name)(**passed)):
                    self.assertEqual(sorted(vars(error)), sorted(fields))
                    for field in fields:
                        self.assertIs(getattr(error, field), value)

    def test_fields_are_not_exchanged(self):
        for name, fields in FIELDS.items():
            passed = [object() for _ in fields]
            error = getattr(errors, name)(*passed)
            for field, value in zip(fields, passed):
                self.assertIs(getattr(error, field), value)

    def test_what_may_be_left_out_is_none(self):
        for name, field in LEFT_OUT.items():
            error = getattr(errors, name)("rule")
            self.assertIsNone(getattr(error, field))
            self.assertEqual(getattr(error, FIELDS[name][0]), "rule")

    def test_nothing_else_may_be_left_out(self):
        for name, fields in FIELDS.items():
            needed = len(fields) - (name in LEFT_OUT)
            for many in [*range(needed), len(fields) + 1]:
                with self.assertRaises(TypeError):
                    getattr(errors, name)(*["x"] * many)

    def test_messages_are_texts_and_end_quickly(self):
        for name, fields in FIELDS.items():
            for value in values_besides(large_shape()):
                error = getattr(errors, name)(*[value] * len(fields))
                self.assertLess(len(str(error)), 200)
                self.assertLess(len(repr(error)), 300)

    def test_can_be_caught_by_the_base_class(self):
        for name, fields in FIELDS.items():
            with self.assertRaises(errors.ShapetypesError):
                raise getattr(errors, name)(*["x"] * len(fields))


if __name__ == "__main__":
    unittest.main()
