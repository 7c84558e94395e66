"""Promises 26 and 27: clean stretches."""

import itertools
import random
import time
import unittest

from nestmend.errors import NoNumber
from nestmend.signs import in_kinds, is_clean, turned_about
from nestmend.stretches import clean_ends, is_clean_stretch, longest_clean, many_clean
from tests.mendings import some_texts
from tests.oracle import SIGNS, THINGS, clean, spoil, texts

SOME = (
    "", "a", "(", ")", "()", "ab", "a()", "(a", "a)", "(])", "([)]", "()()", "(()", "())", "a(b[]{c})<>d",
    ")(", "()a(b",
)
LONG = (
    "a" * 120, "()" * 60, "(" * 60 + ")" * 60, "(" * 120, ")(" * 60, "a(" * 60, "a)" * 60, "(a)" * 40, "([)]" * 30,
    "()" * 30 + "]" + "()" * 29 + "a", "(" * 30 + ")" * 30 + "<" * 30 + ">" * 30, "a" * 59 + "(" + "b" * 60,
)


def stretches(text):
    """All stretches of a text."""
    return list(itertools.combinations(range(len(text) + 1), 2))


def clean_ones(text):
    """All clean stretches of a text, rising, each looked at."""
    return [(begin, end) for begin, end in stretches(text) if clean(text[begin:end])]


class AgainstEachStretch(unittest.TestCase):
    def held(self, text):
        found = clean_ones(text)
        for begin, end in stretches(text):
            self.assertIs(is_clean_stretch(text, begin, end), (begin, end) in found, (text, begin, end))
        self.assertEqual(many_clean(text), len(found), text)
        longest = max((end - begin for begin, end in found), default=0)
        first = next((one for one in found if one[1] - one[0] == longest), None)
        self.assertEqual(longest_clean(text), first, text)
        for end in range(len(text) + 1):
            self.assertEqual(clean_ends(text, end), [one for one in found if one[1] == end], (text, end))

    def test_some(self):
        for text in SOME:
            self.held(text)

    def test_all_short_texts(self):
        for text in texts("a()[]", 5):
            self.held(text)
        for text in texts("<>", 8):
            self.held(text)

    def test_each_two_signs(self):
        for text in texts(SIGNS, 2):
            self.held(text)

    def test_longer_texts(self):
        for text in some_texts(40, 10, 25, 60, "ab()") + some_texts(20, 10, 25, 61, "a()<>[]{}"):
            self.held(text)


class Known(unittest.TestCase):
    def test_some(self):
        self.assertEqual(many_clean("a(b)"), 4)
        self.assertEqual(longest_clean("a(b)"), (0, 4))
        self.assertEqual(clean_ends("a(b)", 4), [(0, 4), (1, 4)])
        self.assertEqual(clean_ends("a(b)", 3), [(2, 3)])
        self.assertEqual(clean_ends("a(b)", 2), [])
        self.assertEqual(clean_ends("abc", 3), [(0, 3), (1, 3), (2, 3)])
        self.assertIs(is_clean_stretch("a(b)", 1, 4), True)
        self.assertIs(is_clean_stretch("a(b)", 1, 3), False)

    def test_none(self):
        for text in ("", "(", ")", ")(", "([)]", "((((", "(]" * 60):
            self.assertEqual(many_clean(text), 0)
            self.assertIsNone(longest_clean(text))
            for end in range(len(text) + 1):
                self.assertEqual(clean_ends(text, end), [])

    def test_the_first_of_several_longest(self):
        self.assertEqual(longest_clean("()(<>"), (0, 2))
        self.assertEqual(longest_clean("(()]ab"), (1, 3))
        self.assertEqual(longest_clean("a(b(c"), (0, 1))
        self.assertEqual(longest_clean("(a(bc(de"), (3, 5))
        self.assertEqual(longest_clean("abc(abc(abc"), (0, 3))
        self.assertEqual(longest_clean("](a)](b)]"), (1, 4))

    def test_kinds_of_values(self):
        self.assertIs(type(many_clean("a()")), int)
        self.assertIs(type(longest_clean("a()")), tuple)
        self.assertEqual([type(part) for part in longest_clean("a()")], [int, int])
        self.assertIs(type(clean_ends("a()", 3)), list)
        self.assertEqual([type(one) for one in clean_ends("a()", 3)], [tuple, tuple])

    def test_begin_and_end(self):
        # No sign is no stretch.
        for place in range(4):
            self.assertIs(is_clean_stretch("a()", place, place), False)
        self.assertIs(is_clean_stretch("a()", 3, 1), False)


class LongTexts(unittest.TestCase):
    def test_known_numbers(self):
        told = [many_clean(text) for text in LONG[:9]]
        self.assertEqual(told, [7260, 1830, 60, 0, 59 * 60 // 2, 60, 60, 40 + 40 * 41 // 2, 0])
        self.assertEqual([longest_clean(text) for text in LONG], [
            (0, 120), (0, 120), (0, 120), None, (1, 119), (0, 1), (0, 1), (0, 120), None, (0, 60), (0, 120), (60, 120),
        ])

    def test_against_each_other_in_good_time(self):
        begin = time.process_time()
        for text in [*LONG, *some_texts(10, 120, 120, 62, "ab()"), *some_texts(10, 120, 120, 63, "a()<>[]{}")]:
            found = sorted(one for end in range(len(text) + 1) for one in clean_ends(text, end))
            self.assertEqual(many_clean(text), len(found))
            longest = max(found, key=lambda one: (one[1] - one[0], -one[0]), default=None)
            self.assertEqual(longest_clean(text), longest)
            for one in found[::17]:
                self.assertIs(is_clean_stretch(text, *one), True)
                self.assertIs(is_clean(text[one[0]:one[1]]), True)
        self.assertLess(time.process_time() - begin, 30)

    def test_turned_about_and_in_other_kinds(self):
        for text in [*SOME, *LONG, *some_texts(40, 20, 120, 64, "ab()[")]:
            size = len(text)
            self.assertEqual(many_clean(turned_about(text)), many_clean(text))
            self.assertEqual(many_clean(in_kinds(text, "[{<(")), many_clean(text))
            for end in (0, size // 2, size):
                for one in clean_ends(text, end):
                    self.assertIs(is_clean_stretch(turned_about(text), size - one[1], size - one[0]), True)


class SideBySide(unittest.TestCase):
    """Promise 27."""

    def test_put_together_and_what_is_left(self):
        for text in [*SOME, *some_texts(40, 5, 20, 65, "ab()"), *texts("a()", 6)]:
            found = set(itertools.chain.from_iterable(clean_ends(text, end) for end in range(len(text) + 1)))
            for one, other in itertools.product(found, repeat=2):
                if one[1] == other[0]:
                    self.assertIn((one[0], other[1]), found, text)
                if one[0] == other[0] and one[1] < other[1]:
                    self.assertIn((one[1], other[1]), found, text)

    def test_of_longer_texts(self):
        chance = random.Random(66)
        for text in some_texts(20, 100, 120, 67, "abc()"):
            for _ in range(200):
                one, two, three = sorted(chance.sample(range(len(text) + 1), 3))
                first, second, both = (
                    is_clean_stretch(text, one, two), is_clean_stretch(text, two, three),
                    is_clean_stretch(text, one, three))
                self.assertFalse(first and second and not both)
                self.assertFalse(first and both and not second)


class Refused(unittest.TestCase):
    def test_no_number_of_anything(self):
        for text in ("", "a", "()", "a(b)", "((", "a" * 120):
            wrong = [thing for thing in THINGS if type(thing) is not int]
            wrong += [-1, -2, len(text) + 1, len(text) + 2, 10 ** 40, -10 ** 40, "0", [0], (0,), str(len(text))]
            for end in wrong:
                with self.subTest(text=text, end=repr(end)), self.assertRaises(NoNumber):
                    clean_ends(text, end)
            for end in (0, len(text)):
                self.assertIsInstance(clean_ends(text, end), list)


class OwnLists(unittest.TestCase):
    def test_each_list_is_the_askers_own(self):
        for text in ("", "a()", "(("):
            for end in range(len(text) + 1):
                told, other = clean_ends(text, end), clean_ends(text, end)
                was = list(other)
                self.assertIsNot(told, other)
                spoil(told)
                self.assertEqual(other, was)
                self.assertEqual(clean_ends(text, end), was)


if __name__ == "__main__":
    unittest.main()
