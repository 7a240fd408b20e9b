"""errors.py [2], [16]."""

import unittest

from barredcrossings import errors

VALUE_ERRORS = ("Unfit", "Twice", "BadText", "BadLine")
LOOKUP_ERRORS = ("NoName", "NoLetter", "NoHouse", "NothingDone")
KEPT = {"Twice": "twice", "BadLine": "number", "NoName": "name", "NoLetter": "letter", "NoHouse": "house"}


class Errors(unittest.TestCase):
    def test_each_is_a_direct_subclass_of_the_class_named(self):
        for word in VALUE_ERRORS:
            self.assertEqual(getattr(errors, word).__bases__, (ValueError,))
        for word in LOOKUP_ERRORS:
            self.assertEqual(getattr(errors, word).__bases__, (LookupError,))

    def test_each_is_defined_in_this_file(self):
        for word in VALUE_ERRORS + LOOKUP_ERRORS:
            self.assertEqual(getattr(errors, word).__module__, "barredcrossings.errors")

    def test_those_with_brackets_keep_what_stands_in_them(self):
        for word, kept in KEPT.items():
            made = getattr(errors, word)
            for value in ("c", 4, -7, 10 ** 30, (1, "s")):
                self.assertEqual(getattr(made(value), kept), value)
                self.assertEqual(getattr(made(**{kept: value}), kept), value)
            with self.assertRaises(TypeError):
                made()

    def test_a_list_is_kept_as_a_tuple_at_any_depth(self):
        for word, kept in KEPT.items():
            made = getattr(errors, word)
            self.assertEqual(getattr(made([]), kept), ())
            self.assertEqual(getattr(made([1, [2, ("a", ["b"])]]), kept), (1, (2, ("a", ("b",)))))
            self.assertEqual(getattr(made(([1],)), kept), ((1,),))

    def test_what_is_kept_does_not_change_with_what_was_handed_in(self):
        handed = [[1], 2]
        error = errors.NoLetter(handed)
        handed[0].append(3)
        handed.append(4)
        self.assertEqual(error.letter, ((1,), 2))

    def test_those_without_brackets_take_nothing(self):
        for word in ("Unfit", "BadText", "NothingDone"):
            made = getattr(errors, word)
            self.assertIsInstance(made(), made)
            with self.assertRaises(TypeError):
                made("more")

    def test_they_can_be_raised_and_caught_by_name(self):
        for word in VALUE_ERRORS + LOOKUP_ERRORS:
            made = getattr(errors, word)
            with self.assertRaises(made):
                raise made(3) if word in KEPT else made()

    def test_none_is_equal_to_anything_that_is_not_of_its_class(self):
        for word in VALUE_ERRORS + LOOKUP_ERRORS:
            made = getattr(errors, word)
            error = made(3) if word in KEPT else made()
            for thing in (None, 3, "3", (3,), ValueError(3), LookupError(3), errors.NoName):
                self.assertFalse(error == thing)
                self.assertTrue(error != thing)
        self.assertFalse(errors.NoLetter(3) == errors.NoHouse(3))


if __name__ == "__main__":
    unittest.main()
