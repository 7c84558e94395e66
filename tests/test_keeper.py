"""Promises 28, 29 and 30: a text that is kept while it grows and shrinks."""

import random
import time
import unittest

from nestmend.counted import how_many
from nestmend.errors import MendError, NoSign
from nestmend.keeper import Keeper
from nestmend.least import least_number, least_table
from nestmend.stretches import many_clean
from tests.mendings import BRACKETS, pruned_least_mendings, some_texts
from tests.oracle import LETTERS, SIGNS, THINGS, clean, spoil, texts

NO_SIGNS = [thing for thing in THINGS if not (isinstance(thing, str) and len(thing) == 1 and thing in SIGNS)] + [
    "A", "Z", " ", "\n", "0", "~", "|", "-", "+", "aa", "()", "a(", "((", b"a", ["a"], ("a",), {"a": 1}, "abc",
]


def kept(text):
    """A keeper to which a text was put."""
    keeper = Keeper()
    for sign in text:
        keeper.put(sign)
    return keeper


def told(keeper):
    """All that a keeper tells but how many entries were written."""
    return (keeper.text(), keeper.least(), keeper.many(), keeper.column(), keeper.clean())


def told_anew(text):
    """The same of a text anew."""
    size = len(text)
    table = least_table(text)
    column = [table[begin][size - begin] for begin in range(size + 1)]
    return (text, least_number(text), how_many(text), column, many_clean(text))


class PutAndTake(unittest.TestCase):
    def test_at_first(self):
        keeper = Keeper()
        self.assertEqual(told(keeper), ("", 0, 1, [0], 0))
        self.assertEqual(keeper.wrote(), 1)

    def test_every_sign(self):
        for sign in SIGNS:
            keeper = Keeper()
            self.assertIsNone(keeper.put(sign))
            self.assertEqual(keeper.text(), sign)
            self.assertEqual(keeper.take(), sign)
            self.assertEqual(keeper.text(), "")

    def test_the_last_sign_is_taken(self):
        text = "a(b[]{c})<>d"
        keeper = kept(text)
        self.assertEqual(keeper.text(), text)
        for place in reversed(range(len(text))):
            self.assertEqual(keeper.take(), text[place])
            self.assertEqual(keeper.text(), text[:place])

    def refused(self, keeper, sign):
        was, wrote = told(keeper), keeper.wrote()
        with self.subTest(sign=repr(sign)), self.assertRaises(NoSign):
            keeper.put(sign)
        self.assertEqual((told(keeper), keeper.wrote()), (was, wrote))

    def test_no_signs(self):
        for text in ("", "a", "(]"):
            keeper = kept(text)
            for sign in NO_SIGNS:
                self.refused(keeper, sign)
            keeper.put("(")
            keeper.take()
            for sign in NO_SIGNS:
                self.refused(keeper, sign)
            keeper.put("a")
            self.assertEqual(told(keeper), told_anew(text + "a"))

    def test_forty_signs_and_no_more(self):
        for text in ("a" * 40, "(" * 40, "([)]" * 10):
            keeper = kept(text[:39])
            keeper.put(text[39])
            for sign in ["a", "(", ")", *NO_SIGNS]:
                self.refused(keeper, sign)
            self.assertEqual(keeper.text(), text)
            self.assertEqual(keeper.wrote(), 41)
            self.assertEqual(keeper.take(), text[39])
            keeper.put("z")
            self.assertEqual(keeper.text(), text[:39] + "z")
            self.refused(keeper, "z")

    def test_no_sign_to_take(self):
        keeper = Keeper()
        for _ in range(2):
            with self.assertRaises(NoSign):
                keeper.take()
            self.assertEqual((told(keeper), keeper.wrote()), (("", 0, 1, [0], 0), 1))
        keeper.put("(")
        keeper.take()
        with self.assertRaises(NoSign):
            keeper.take()
        self.assertEqual((told(keeper), keeper.wrote()), (("", 0, 1, [0], 0), 0))
        keeper.put("a")
        self.assertEqual(keeper.text(), "a")


class Told(unittest.TestCase):
    def test_known(self):
        self.assertEqual(told(kept("(")), ("(", 1, 2, [1, 0], 0))
        self.assertEqual(told(kept(")(")), (")(", 2, 8, [2, 1, 0], 0))
        self.assertEqual(told(kept("a(b)")), ("a(b)", 0, 1, [0, 0, 1, 1, 0], 4))

    def test_against_all_deeds(self):
        for text in [*texts("a(]", 4), *texts("()<", 3)]:
            found = pruned_least_mendings(text)
            keeper = kept(text)
            self.assertEqual((keeper.least(), keeper.many()), (len(found[0]), len(found)), text)
            self.assertEqual(keeper.column(), [
                len(pruned_least_mendings(text[begin:])[0]) for begin in range(len(text) + 1)])
            stretches = [text[begin:end] for begin in range(len(text)) for end in range(begin + 1, len(text) + 1)]
            self.assertEqual(keeper.clean(), sum(clean(one) for one in stretches))

    def test_kinds_of_values(self):
        keeper = kept("a(b]")
        self.assertIs(type(keeper.text()), str)
        for ask in (keeper.least, keeper.many, keeper.clean, keeper.wrote):
            self.assertIs(type(ask()), int)
        self.assertIs(type(keeper.column()), list)
        self.assertEqual({type(entry) for entry in keeper.column()}, {int})
        self.assertIs(type(keeper.take()), str)

    def test_wrote(self):
        keeper = Keeper()
        self.assertEqual(keeper.wrote(), 1)
        for many, sign in enumerate("a(b[]{c})<>d" * 3, 1):
            keeper.put(sign)
            self.assertEqual(keeper.wrote(), many + 1)
            self.assertEqual(keeper.wrote(), len(keeper.column()))
        for _ in range(20):
            keeper.take()
            self.assertEqual(keeper.wrote(), 0)
        keeper.put("a")
        self.assertEqual(keeper.wrote(), 18)
        told(keeper)
        self.assertEqual(keeper.wrote(), 18)


class Anew(unittest.TestCase):
    """Promise 30."""

    def gone_through(self, seed, rounds, most, signs):
        chance = random.Random(seed)
        keeper, text = Keeper(), ""
        for _ in range(rounds):
            if text and (len(text) == most or chance.random() < 0.4):
                self.assertEqual(keeper.take(), text[-1])
                text = text[:-1]
                self.assertEqual(keeper.wrote(), 0)
            else:
                sign = chance.choice(signs)
                keeper.put(sign)
                text += sign
                self.assertEqual(keeper.wrote(), len(text) + 1)
            if chance.random() < 0.2:
                with self.assertRaises(MendError):
                    keeper.put(chance.choice(NO_SIGNS))
            self.assertEqual(told(keeper), told_anew(text), text)

    def test_behind_each_put_and_take(self):
        self.gone_through(70, 300, 8, "ab" + BRACKETS)
        self.gone_through(71, 300, 12, "a()")
        self.gone_through(72, 150, 14, LETTERS + BRACKETS * 4)

    def test_to_forty_signs_and_back(self):
        for text in ("([)]" * 10, some_texts(1, 40, 40, 73)[0]):
            keeper = Keeper()
            anew = [told_anew(text[:size]) for size in range(41)]
            for size in range(40):
                keeper.put(text[size])
                self.assertEqual(told(keeper), anew[size + 1])
            for size in reversed(range(40)):
                keeper.take()
                self.assertEqual(told(keeper), anew[size])

    def test_another_way_to_the_same_text(self):
        for text in ("a(b]c", "))((", "<a>{"):
            keeper = Keeper()
            for place, sign in enumerate(text):
                for other in "(]a)"[:place + 1]:
                    keeper.put(other)
                for _ in range(min(4, place + 1)):
                    keeper.take()
                keeper.put(sign)
            self.assertEqual(told(keeper), told(kept(text)))
            self.assertEqual(keeper.wrote(), kept(text).wrote())

    def test_in_good_time(self):
        begin = time.process_time()
        keeper = kept(")(" * 20)
        for _ in range(100):
            keeper.take()
            keeper.put("<")
            told(keeper)
        self.assertLess(time.process_time() - begin, 20)


class Apart(unittest.TestCase):
    def test_two_keepers(self):
        one, other = Keeper(), Keeper()
        one.put("(")
        self.assertEqual(told(other), told_anew(""))
        self.assertEqual(other.wrote(), 1)
        other.put("a")
        other.put("]")
        self.assertEqual(told(one), told_anew("("))
        one.take()
        self.assertEqual(told(other), told_anew("a]"))
        self.assertEqual(told(one), told_anew(""))

    def test_told_lists_are_the_askers_own(self):
        keeper = kept("a(]")
        first, second = keeper.column(), keeper.column()
        self.assertIsNot(first, second)
        was = list(second)
        spoil(first)
        self.assertEqual(second, was)
        self.assertEqual(keeper.column(), was)
        keeper.put(")")
        keeper.take()
        keeper.take()
        self.assertEqual(second, was)
        keeper.put("]")
        self.assertEqual(told(keeper), told_anew("a(]"))


if __name__ == "__main__":
    unittest.main()
