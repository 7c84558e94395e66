"""The refusals: which class stands under which."""

import itertools
import unittest

from nestmend.errors import MendError, NoDeeds, NoNest, NoNumber, NoRow, NoSign, NoWriting

REFUSALS = (NoNest, NoDeeds, NoNumber, NoSign, NoWriting, NoRow)


class Errors(unittest.TestCase):
    def test_any_refusal_is_a_value_error(self):
        self.assertEqual(MendError.__bases__, (ValueError,))

    def test_each_stands_under_mend_error(self):
        for one in REFUSALS:
            with self.subTest(one=one):
                self.assertTrue(issubclass(one, MendError))
                self.assertFalse(issubclass(MendError, one))

    def test_none_stands_under_another(self):
        for one, other in itertools.permutations(REFUSALS, 2):
            with self.subTest(one=one, other=other):
                self.assertFalse(issubclass(one, other))

    def test_names(self):
        names = [one.__name__ for one in (MendError, *REFUSALS)]
        self.assertEqual(names, "MendError NoNest NoDeeds NoNumber NoSign NoWriting NoRow".split())

    def test_each_is_caught_as_any(self):
        for one in REFUSALS:
            with self.assertRaises(MendError):
                raise one("words")


if __name__ == "__main__":
    unittest.main()
