"""Promise [2] and the interface: the errors."""

import unittest

from undoneall import errors

PLAIN = ("BadProgram", "BadRun", "BadName", "BadLimit", "TooGreat", "BadWord", "BadStraight", "BadPlace", "BadCount",
         "BadBeginning", "BadLog", "Unlike")
FIELDS = {"NotChecked": "what", "BadText": "place", "NotOne": "name", "Wrong": "beginning", "NotLet": "index"}
VALUES = {"NotChecked": ("letter", "a"), "BadText": 7, "NotOne": "main", "Wrong": ((), ((0,),)), "NotLet": 3}


def made(name):
    """An error of the class with this name."""
    kind = getattr(errors, name)
    return kind(VALUES[name]) if name in FIELDS else kind("some text")


class ErrorClasses(unittest.TestCase):
    def test_there_are_seventeen(self):
        self.assertEqual(len(PLAIN) + len(FIELDS), 17)
        found = [name for name in vars(errors) if isinstance(getattr(errors, name), type)]
        self.assertEqual(sorted(found), sorted([*PLAIN, *FIELDS, "DeedError"]))

    def test_each_is_directly_under_deed_error(self):
        self.assertEqual(errors.DeedError.__bases__, (ValueError,))
        for name in [*PLAIN, *FIELDS]:
            self.assertEqual(getattr(errors, name).__bases__, (errors.DeedError,), name)

    def test_each_is_caught_as_itself_deed_error_and_value_error_alone(self):
        for name in [*PLAIN, *FIELDS]:
            for other in [*PLAIN, *FIELDS]:
                self.assertEqual(isinstance(made(name), getattr(errors, other)), name == other)
            for caught in (getattr(errors, name), errors.DeedError, ValueError):
                with self.assertRaises(caught):
                    raise made(name)

    def test_classes_without_fields_take_one_text(self):
        for name in PLAIN:
            error = getattr(errors, name)("some text")
            self.assertEqual(error.args, ("some text",))
            self.assertEqual(vars(error), {})

    def test_fields_by_position_and_by_name(self):
        for name, field in FIELDS.items():
            kind = getattr(errors, name)
            for value in (VALUES[name], None, 0, ("x", ("y",))):
                self.assertEqual(getattr(kind(value), field), value)
                self.assertEqual(getattr(kind(**{field: value}), field), value)
                self.assertEqual(list(vars(kind(value))), [field])

    def test_classes_with_fields_are_made_with_these_alone(self):
        for name in FIELDS:
            kind = getattr(errors, name)
            with self.assertRaises(TypeError):
                kind()
            with self.assertRaises(TypeError):
                kind(1, 2)
            with self.assertRaises(TypeError):
                kind(other=1)
