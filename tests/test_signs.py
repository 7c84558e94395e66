"""Promises 4, 5 and 6: clean texts, partners, turned about, in other kinds."""

import itertools
import random
import unittest

from nestmend.signs import in_kinds, is_clean, partners, turned_about
from tests.oracle import CLOSING, KINDS, LETTERS, OPENING, SIGNS, clean, partner_list, spoil, texts

CLEAN = (
    "", "a", "z", "abcxyz", LETTERS, "()", "<>", "[]", "{}", "a()", "()a", "(a)", "()()", "()<>[]{}",
    "(<[{}]>)", "{[<()>]}", "a(b<c>d[e]f)g{h}", "(())", "(()())", "{{}[]}", "([]{}<>)",
)
UNCLEAN = (
    "(", ")", "<", ">", "[", "]", "{", "}", ")(", "a(", ")a", "(]", "[)", "<}", "(()", "())", "([)]",
    "<{>}", "()(", ")()", "(a]b", "((a)", "[(])", "a)b(c", "(<[{}]>", "<[{}]>)", "([]{}<>]",
)


def some_texts(many, longest, signs, seed):
    """Texts that look like chance but are the same each time."""
    chance = random.Random(seed)
    return ["".join(chance.choices(signs, k=chance.randrange(longest + 1))) for _ in range(many)]


def some_clean_text(chance, size):
    """A clean text of just so many signs."""
    text = ""
    while len(text) < size:
        if size - len(text) >= 2 and chance.random() < 0.4:
            within = chance.randrange(size - len(text) - 1)
            kind = chance.choice(KINDS)
            text += kind[0] + some_clean_text(chance, within) + kind[1]
        else:
            text += chance.choice(LETTERS)
    return text


class Clean(unittest.TestCase):
    def test_clean_ones(self):
        for text in CLEAN:
            with self.subTest(text=text):
                self.assertIs(is_clean(text), True)

    def test_unclean_ones(self):
        for text in UNCLEAN:
            with self.subTest(text=text):
                self.assertIs(is_clean(text), False)

    def test_all_short_texts(self):
        for text in texts("a()[]", 6):
            self.assertEqual(is_clean(text), clean(text), text)
        for text in texts("b<>{}", 5):
            self.assertEqual(is_clean(text), clean(text), text)

    def test_each_sign_alone_and_each_two(self):
        for text in texts(SIGNS, 2):
            self.assertEqual(is_clean(text), clean(text), text)

    def test_sixty_one_within_another(self):
        order = "".join(OPENING[place % 4] for place in range(60))
        text = order + turned_about(order)
        self.assertEqual(len(text), 120)
        self.assertIs(is_clean(text), True)
        self.assertIs(is_clean(text[1:]), False)
        self.assertIs(is_clean(text[:-1]), False)
        self.assertIs(is_clean(text[:59] + text[60] + text[59] + text[61:]), False)
        self.assertEqual(partners(text), list(range(119, -1, -1)))

    def test_a_hundred_and_twenty_signs(self):
        chance = random.Random(4)
        for _ in range(60):
            text = some_clean_text(chance, 120)
            self.assertEqual(len(text), 120)
            self.assertIs(is_clean(text), True)
            brackets = [place for place, sign in enumerate(text) if sign not in LETTERS]
            place = chance.choice(brackets)
            self.assertIs(is_clean(text[:place] + "a" + text[place + 1:]), False)
        self.assertIs(is_clean("()" * 60), True)
        self.assertIs(is_clean("a" * 120), True)
        self.assertIs(is_clean("(" * 120), False)
        self.assertIs(is_clean(")" * 60 + "(" * 60), False)


class Partners(unittest.TestCase):
    def test_some(self):
        self.assertEqual(partners(""), [])
        self.assertEqual(partners("abc"), [None, None, None])
        self.assertEqual(partners("("), [None])
        self.assertEqual(partners("]"), [None])
        self.assertEqual(partners("a(b)"), [None, 3, None, 1])
        self.assertEqual(partners("(<>)[]"), [3, 2, 1, 0, 5, 4])

    def test_unclean_texts_have_some_too(self):
        self.assertEqual(partners("(()"), [None, 2, 1])
        self.assertEqual(partners("())"), [1, 0, None])
        self.assertEqual(partners("([)]"), [None] * 4)
        self.assertEqual(partners("(])"), [None] * 3)
        self.assertEqual(partners("[(]{}"), [None, None, None, 4, 3])
        self.assertEqual(partners("(})<a>"), [None, None, None, 5, None, 3])

    def test_all_short_texts(self):
        for text in texts("a()[]", 6):
            self.assertEqual(partners(text), partner_list(text), text)
        for text in texts("<>{}", 6):
            self.assertEqual(partners(text), partner_list(text), text)

    def test_longer_texts(self):
        for text in some_texts(80, 30, "ab" + OPENING + CLOSING, 5) + some_texts(80, 30, "a()", 6):
            self.assertEqual(partners(text), partner_list(text), text)

    def test_both_ways_and_none_for_letters(self):
        for text in some_texts(200, 120, "a()[]", 7):
            told = partners(text)
            self.assertIsInstance(told, list)
            self.assertEqual(len(told), len(text))
            for place, partner in enumerate(told):
                if partner is not None:
                    self.assertEqual(told[partner], place)
                    self.assertNotIn(text[place], LETTERS)

    def test_clean_just_where_each_bracket_has_one(self):
        for text in [*CLEAN, *UNCLEAN, *some_texts(300, 120, "a()", 8), *texts("a(){}", 5)]:
            each = all(sign in LETTERS or partner is not None for sign, partner in zip(text, partners(text)))
            self.assertEqual(is_clean(text), each, text)

    def test_the_list_is_the_askers_own(self):
        told = partners("a(b)")
        spoil(told)
        again = partners("a(b)")
        self.assertEqual(again, [None, 3, None, 1])
        self.assertIsNot(again, partners("a(b)"))
        self.assertIsNot(partners(""), partners(""))


class TurnedAbout(unittest.TestCase):
    def test_some(self):
        for text, turned in (
            ("", ""), ("a", "a"), ("abc", "cba"), ("(", ")"), (")", "("), ("<", ">"), (">", "<"), ("[", "]"),
            ("]", "["), ("{", "}"), ("}", "{"), ("(a]", "[a)"), ("a(b<", ">b)a"), ("()", "()"), (")(", ")("),
        ):
            with self.subTest(text=text):
                self.assertEqual(turned_about(text), turned)

    def test_twice_is_the_text(self):
        for text in [*CLEAN, *UNCLEAN, SIGNS, *some_texts(200, 120, SIGNS, 9)]:
            self.assertEqual(turned_about(turned_about(text)), text)

    def test_as_clean_as_it_was(self):
        for text in texts("a()[]", 5):
            self.assertEqual(is_clean(turned_about(text)), is_clean(text), text)
        for text in CLEAN + UNCLEAN:
            self.assertEqual(is_clean(turned_about(text)), is_clean(text), text)

    def test_partners_turn_too(self):
        for text in some_texts(100, 120, "a()[]", 10):
            last = len(text) - 1
            turned = [None if place is None else last - place for place in partners(text)]
            self.assertEqual(partners(turned_about(text)), turned[::-1])


class InKinds(unittest.TestCase):
    def test_some(self):
        self.assertEqual(in_kinds("a()b<>c[]d{}", "(<[{"), "a()b<>c[]d{}")
        self.assertEqual(in_kinds("a()b<>c[]d{}", "<[{("), "a<>b[]c{}d()")
        self.assertEqual(in_kinds("}{][><)(", "{[<("), ")(><][}{")
        self.assertEqual(in_kinds("", "{[<("), "")
        self.assertEqual(in_kinds("abc", "{[<("), "abc")

    def test_every_order(self):
        for several in itertools.permutations(OPENING):
            order = "".join(several)
            with self.subTest(order=order):
                self.assertEqual(in_kinds("(<[{", order), order)
                self.assertEqual(in_kinds(")>]}", order), turned_about(order)[::-1])
                self.assertEqual(in_kinds(LETTERS, order), LETTERS)
                for text in CLEAN + UNCLEAN:
                    self.assertEqual(is_clean(in_kinds(text, order)), is_clean(text), text)
                    self.assertEqual(partners(in_kinds(text, order)), partners(text), text)
                    self.assertEqual(turned_about(in_kinds(text, order)), in_kinds(turned_about(text), order))

    def test_every_order_has_a_way_back(self):
        for several in itertools.permutations(range(4)):
            order = "".join(OPENING[place] for place in several)
            back = "".join(OPENING[several.index(place)] for place in range(4))
            for text in some_texts(20, 120, SIGNS, 11):
                self.assertEqual(in_kinds(in_kinds(text, order), back), text)


if __name__ == "__main__":
    unittest.main()
