"""Promises 20, 21, 22 and 23: the least mendings by some words."""

import itertools
import random
import time
import unittest

from nestmend.bywords import kth_by, least_by, many_by
from nestmend.counted import how_many, kth_mending
from nestmend.deeds import is_mending
from nestmend.errors import NoNumber
from nestmend.least import least_number
from nestmend.signs import in_kinds, turned_about
from tests.mendings import ALL_WORDS, BRACKETS, WORDS, plain_least_by, pruned_least_mendings, some_texts, told_by
from tests.oracle import KINDS, THINGS, clean, spoil, texts

PUT, STRIKE, TURN = ("put",), ("strike",), ("turn",)
SOME = ("", "a", "()", "(", ")", ")(", "(]", "a(b]", "([)]", "<<<", "}a{", "((", "))", "(<")
FOURTEEN = (
    ")(" * 7, "([<{" * 3 + "((", ")]>}" * 3 + "}}", ")" * 7 + "(" * 7, "(" * 13 + "a", "a(b[c<d{e)f>g]", "(]" * 7,
    "(" * 7 + "]" * 7, "a" * 14, "()" * 7,
)
FORTY = (")(" * 20, "([<{" * 10, ")" * 20 + "(" * 20, "(]" * 20, "a)" * 20, "([)]" * 10, "(" * 40)
NO_NUMBERS = [thing for thing in THINGS if type(thing) is not int] + [[0], (0,), "1", b"0", {0: 0}, -1, -2, -10 ** 40]


def brackets_of(text):
    """How many brackets a text has."""
    return sum(sign in BRACKETS for sign in text)


class AgainstAllDeeds(unittest.TestCase):
    def held_against(self, text, words, found):
        about = (text, words)
        self.assertEqual(least_by(text, words), len(found[0]) if found else None, about)
        self.assertEqual(many_by(text, words), len(found), about)
        for number, deeds in enumerate(found):
            self.assertEqual(kth_by(text, words, number), deeds, (about, number))
        with self.assertRaises(NoNumber):
            kth_by(text, words, len(found))

    def test_all_words_there_are(self):
        self.assertEqual(ALL_WORDS, (
            ("put",), ("strike",), ("turn",), ("put", "strike"), ("put", "turn"), ("strike", "turn"),
            ("put", "strike", "turn"),
        ))

    def test_plainly_all_deeds(self):
        for text in [*texts("a" + BRACKETS, 1), *texts("a(]", 2), "()", "<>", ")(", "[)", "}{", "{{"]:
            for words in ALL_WORDS:
                self.held_against(text, words, plain_least_by(text, words))

    def test_all_texts_of_two_signs(self):
        for text in texts("a" + BRACKETS, 2):
            for words in ALL_WORDS:
                self.held_against(text, words, pruned_least_mendings(text, words))

    def test_all_texts_of_three_signs(self):
        for text in texts("a()[]", 3):
            for words in ALL_WORDS:
                self.held_against(text, words, pruned_least_mendings(text, words))

    def test_somewhat_longer_ones(self):
        for text in [*SOME, *some_texts(12, 4, 5, 40), *some_texts(12, 4, 6, 41, "aa()[")]:
            for words in ALL_WORDS:
                if (least_by(text, words) or 0) <= 3:
                    self.held_against(text, words, pruned_least_mendings(text, words))

    def test_both_ways_of_going_through_all(self):
        for text in ("", "a", "(", ")(", "(]", "a)", "(a"):
            for words in ALL_WORDS:
                self.assertEqual(pruned_least_mendings(text, words), plain_least_by(text, words), (text, words))

    def test_known(self):
        self.held_against(")(", PUT, [[(0, "put", "("), (2, "put", ")")]])
        self.held_against(")(", STRIKE, [[(0, "strike", ""), (1, "strike", "")]])
        self.held_against(")(", TURN, [[(0, "turn", one), (1, "turn", other)] for one, other in KINDS])
        self.held_against("(", TURN, [])
        self.held_against("(]", TURN, [[(0, "turn", "[")], [(1, "turn", ")")]])
        self.held_against("((", ("put", "strike"), [
            [(0, "strike", ""), (1, "strike", "")], [(0, "strike", ""), (2, "put", ")")],
            [(1, "put", ")"), (1, "strike", "")], [(1, "put", ")"), (2, "put", ")")],
            [(1, "strike", ""), (2, "put", ")")], [(2, "put", ")"), (2, "put", ")")],
        ])
        self.held_against("(", ("put", "turn"), [[(1, "put", ")")]])
        self.held_against(")", ("strike", "turn"), [[(0, "strike", "")]])
        self.held_against("(a", PUT, [[(1, "put", ")")], [(2, "put", ")")]])


class LeastAndMany(unittest.TestCase):
    def test_kinds_of_values(self):
        for text in SOME:
            for words in ALL_WORDS:
                self.assertIs(type(many_by(text, words)), int)
                few = least_by(text, words)
                self.assertIn(type(few), (int, type(None)))
                self.assertEqual(few is None, many_by(text, words) == 0)

    def test_clean_texts(self):
        for text in ("", "a", "()", "a(b<>)[{}]", "z" * 14, "()" * 7):
            for words in ALL_WORDS:
                self.assertEqual(least_by(text, words), 0)
                self.assertEqual(many_by(text, words), 1)
                self.assertEqual(kth_by(text, words, 0), [])

    def test_by_all_words(self):
        for text in [*SOME, *FOURTEEN, *some_texts(30, 0, 14, 42)]:
            many = how_many(text)
            self.assertEqual(least_by(text, WORDS), least_number(text))
            self.assertEqual(many_by(text, WORDS), many)
            for k in {0, many // 2, many - 1}:
                self.assertEqual(kth_by(text, WORDS, k), kth_mending(text, k))

    def test_turned_about_and_in_other_kinds(self):
        for text in [*some_texts(30, 0, 14, 43), *FOURTEEN]:
            for words in ALL_WORDS:
                few, many = least_by(text, words), many_by(text, words)
                for other in (turned_about(text), in_kinds(text, "{(<[")):
                    self.assertEqual((least_by(other, words), many_by(other, words)), (few, many), (text, words))

    def test_forty_signs_in_good_time(self):
        begin = time.process_time()
        for text in FORTY:
            for words in ALL_WORDS:
                self.assertGreaterEqual(least_by(text, words), 2)
        self.assertLess(time.process_time() - begin, 40)


class Turning(unittest.TestCase):
    """Promise 21."""

    def test_all_short_texts(self):
        for text in texts("a()[]", 5):
            even = brackets_of(text) % 2 == 0
            self.assertEqual(least_by(text, TURN) is not None, even, text)
            self.assertEqual(many_by(text, TURN) > 0, even, text)

    def test_longer_texts(self):
        for text in some_texts(120, 6, 40, 44):
            self.assertEqual(least_by(text, TURN) is not None, brackets_of(text) % 2 == 0, text)

    def test_none_where_the_number_is_odd(self):
        for text in ("(", "a)b", "()(", "(((", "((a))]", "(" * 13):
            self.assertIsNone(least_by(text, TURN))
            self.assertEqual(many_by(text, TURN), 0)
            for k in (0, 1, -1, None):
                with self.assertRaises(NoNumber):
                    kth_by(text, TURN, k)


class OneNumber(unittest.TestCase):
    """Promise 23."""

    def held(self, text):
        first = [least_by(text, words) for words in (PUT, STRIKE, ("put", "strike"))]
        second = [least_by(text, words) for words in (("put", "turn"), ("strike", "turn"), WORDS)]
        self.assertEqual(len(set(first)), 1, (text, first))
        self.assertEqual(len(set(second)), 1, (text, second))
        self.assertEqual(second[0], least_number(text), text)
        self.assertLessEqual(second[0], first[0], text)
        self.assertLessEqual(first[0], 2 * second[0], text)

    def test_all_short_texts(self):
        for text in texts("a(]", 5):
            self.held(text)
        for text in texts("()<>", 4):
            self.held(text)

    def test_longer_texts(self):
        for text in [*some_texts(60, 5, 20, 45), *some_texts(8, 30, 40, 46), *FORTY]:
            self.held(text)

    def test_both_bounds_are_met(self):
        self.assertEqual((least_by("(", STRIKE), least_by("(", WORDS)), (1, 1))
        self.assertEqual((least_by("((", STRIKE), least_by("((", WORDS)), (2, 1))


class ByNumber(unittest.TestCase):
    def test_rising(self):
        chance = random.Random(47)
        for text in [*FOURTEEN, *some_texts(20, 6, 14, 48)]:
            for words in ALL_WORDS:
                few, many = least_by(text, words), many_by(text, words)
                if many == 0:
                    continue
                some = [chance.randrange(many) for _ in range(6)]
                numbers = sorted({0, max(0, many - 2), many - 1, *some})
                told = [kth_by(text, words, k) for k in numbers]
                for deeds in told:
                    self.assertIs(is_mending(text, deeds), True, (text, words, deeds))
                    self.assertEqual(len(deeds), few)
                    self.assertLessEqual({word for _, word, _ in deeds}, set(words))
                for one, other in itertools.pairwise(told):
                    self.assertLess(one, other, (text, words))

    def test_each_just_once(self):
        for text in ("((((", "(]a[)", "<a<a<", ")))", "([)]"):
            for words in ALL_WORDS:
                told = [kth_by(text, words, k) for k in range(many_by(text, words))]
                self.assertEqual(told, sorted(told))
                self.assertEqual(len({tuple(deeds) for deeds in told}), len(told))

    def test_no_number_of_anything(self):
        for text in ("", "()", "(", ")(", "a(b]"):
            for words in ALL_WORDS:
                many = many_by(text, words)
                for k in [*NO_NUMBERS, many, many + 1, 10 ** 40]:
                    with self.subTest(text=text, words=words, k=repr(k)), self.assertRaises(NoNumber):
                        kth_by(text, words, k)

    def test_fourteen_signs_in_good_time(self):
        begin = time.process_time()
        for text in FOURTEEN:
            for words in ALL_WORDS:
                many = many_by(text, words)
                if many:
                    self.assertTrue(clean(told_by(text, kth_by(text, words, many - 1))))
        self.assertLess(time.process_time() - begin, 20)

    def test_the_list_is_the_askers_own(self):
        for text in ("()", ")(", "(]"):
            for words in ALL_WORDS:
                told = kth_by(text, words, 0)
                was = list(told)
                self.assertIsNot(kth_by(text, words, 0), told)
                spoil(told)
                self.assertEqual(kth_by(text, words, 0), was)


if __name__ == "__main__":
    unittest.main()
