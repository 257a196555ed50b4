"""[2]: the refusals."""

import unittest

from markseam import errors
from markseam.errors import SeamError
from tests.helpers import FIELDS, KINDS, SeamCase, no_texts, no_wholes


class Errors(SeamCase):
    def test_seam_error_is_a_value_error(self):
        self.assertTrue(issubclass(SeamError, ValueError))
        self.assertEqual(SeamError.__bases__, (ValueError,))

    def test_each_kind_stands_under_seam_error_and_no_other(self):
        for kind in KINDS:
            self.assertTrue(issubclass(kind, SeamError))
            for other in KINDS:
                self.assertEqual(issubclass(kind, other), kind is other)

    def test_seam_error_is_none_of_the_kinds(self):
        for kind in KINDS:
            self.assertFalse(issubclass(SeamError, kind))

    def test_field_keeps_whatever_thing_is_handed_in(self):
        for kind in KINDS:
            for thing in no_texts() + no_wholes():
                self.assertIs(getattr(kind(thing), FIELDS[kind]), thing)

    def test_field_may_be_handed_in_by_its_name(self):
        for kind in KINDS:
            thing = [kind]
            self.assertIs(getattr(kind(**{FIELDS[kind]: thing}), FIELDS[kind]), thing)

    def test_field_is_wanted(self):
        for kind in KINDS:
            with self.assertRaises(TypeError):
                kind()
            with self.assertRaises(TypeError):
                kind(1, 2)

    def test_caught_by_own_class_by_seam_error_and_by_value_error(self):
        for kind in KINDS:
            for wider in (kind, SeamError, ValueError):
                with self.assertRaises(wider):
                    raise kind(3)

    def test_can_be_shown_whatever_the_field_is(self):
        for kind in KINDS:
            for thing in no_texts():
                self.assertIsInstance(str(kind(thing)), str)
                self.assertIsInstance(repr(kind(thing)), str)

    def test_no_other_kinds_stand_in_the_file(self):
        found = [thing for thing in vars(errors).values() if isinstance(thing, type)]
        self.assertEqual(len(found), 11)


if __name__ == "__main__":
    unittest.main()
