"""The interface of openlines.errors."""

import copy
import unittest

from openlines import errors
from values import ANY_VALUES

CLASSES = {
    ValueError: {
        "NoName": ("name",), "NoBases": ("at",), "NoLine": ("kind", "ring"), "NoMerge": ("ring",),
        "NoCall": ("call",), "NoBody": ("at",), "NoChain": ("at",), "NoRegistry": (),
        "NoText": ("at",), "NoCommand": (),
    },
    KeyError: {"NoKind": ("name",), "NoObject": ("number",), "NoOpen": ("number",)},
    LookupError: {"Absent": ("kind", "call"), "NoDefiner": ("definer",)},
    RuntimeError: {"Taken": ("name",), "InUse": ("name",), "Busy": ("number",), "Nothing": ()},
    OverflowError: {"TooMany": (), "TooLong": (), "TooDeep": ("number",)},
}
ROWS = [(getattr(errors, name), base, fields) for base in CLASSES for name, fields in CLASSES[base].items()]


class ErrorTest(unittest.TestCase):
    def test_each_stands_directly_under_its_base(self):
        for made, base, _ in ROWS:
            self.assertEqual(made.__bases__, (base,))

    def test_each_is_defined_in_errors(self):
        for made, _, _ in ROWS:
            self.assertEqual(made.__module__, "openlines.errors")

    def test_there_are_no_others(self):
        found = [name for name, thing in vars(errors).items() if isinstance(thing, type)]
        self.assertEqual(sorted(found), sorted([made.__name__ for made, _, _ in ROWS]))

    def test_fields_by_position(self):
        for made, _, fields in ROWS:
            for start in range(len(ANY_VALUES)):
                told = [ANY_VALUES[(start + at) % len(ANY_VALUES)] for at in range(len(fields))]
                error = made(*told)
                for field, thing in zip(fields, told):
                    self.assertIs(vars(error)[field], thing)

    def test_fields_by_keyword(self):
        for made, _, fields in ROWS:
            told = {field: ["a", at] for at, field in enumerate(fields)}
            for names in (fields, fields[::-1]):
                error = made(**{name: told[name] for name in names})
                for field in fields:
                    self.assertIs(vars(error)[field], told[field])

    def test_first_by_position_and_second_by_keyword(self):
        self.assertEqual(vars(errors.NoLine("a", ring=())), {"kind": "a", "ring": ()})
        self.assertEqual(vars(errors.Absent("a", call="f")), {"kind": "a", "call": "f"})

    def test_no_other_attributes(self):
        for made, _, fields in ROWS:
            self.assertEqual(sorted(vars(made(*fields))), sorted(fields))

    def test_each_argument_is_needed(self):
        for made, _, fields in ROWS:
            if fields:
                with self.assertRaises(TypeError):
                    made(*fields[1:])
                with self.assertRaises(TypeError):
                    made(*fields, 1)

    def test_each_is_caught_by_its_base(self):
        for made, base, fields in ROWS:
            with self.assertRaises(base) as caught:
                raise made(*fields)
            self.assertIs(caught.exception.__class__, made)

    def test_objects_share_nothing(self):
        one, other = errors.NoBases(0), errors.NoBases(1)
        self.assertEqual((one.at, other.at), (0, 1))

    def test_a_copy_has_the_same_fields(self):
        for made, _, fields in ROWS:
            told = made(*fields)
            self.assertEqual(vars(copy.copy(told)), vars(told))


if __name__ == "__main__":
    unittest.main()
