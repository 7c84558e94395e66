"""Promises 24 and 25: how often each deed stands in the least mendings, and what is the same in all of them."""

import time
import unittest

from nestmend.counted import how_many, kth_mending
from nestmend.least import least_number
from nestmend.shares import always_done, always_kept, shares_of
from tests.mendings import BRACKETS, pruned_least_mendings, some_texts
from tests.oracle import spoil, texts

SOME = (
    "", "a", "()", "(", ")", ")(", "(]", "a(b]", "([)]", "<<<", "}a{", "((", "))", "(<", "(]()", "[(])", "(a[b)c]",
    "()(", "(()", "{(})", "a)b", "<()>(", "][", "()]()", "(((", ")))", "<a(b",
)
FOURTEEN = (
    ")(" * 7, "([<{" * 3 + "((", ")]>}" * 3 + "}}", ")" * 7 + "(" * 7, "(" * 13 + "a", "a(b[c<d{e)f>g]", "(]" * 7,
    "(" * 7 + "]" * 7, "a" * 14, "()" * 7, "ab)cd)ef)gh)ij",
)


def brackets_of(text):
    """The places of a text's brackets."""
    return [place for place, sign in enumerate(text) if sign in BRACKETS]


class AgainstAll(unittest.TestCase):
    def held_against(self, text, found):
        often = {}
        for deeds in found:
            for deed in deeds:
                often[deed] = often.get(deed, 0) + 1
        self.assertEqual(shares_of(text), sorted(often.items()), text)
        always = sorted({deed for deed in often if all(deed in deeds for deeds in found)})
        self.assertEqual(always_done(text), always, text)
        touched = {deed[0] for deed in often if deed[1] != "put"}
        self.assertEqual(always_kept(text), [place for place in brackets_of(text) if place not in touched], text)
        # The shares are taken to be numbers of mendings.
        self.assertTrue(all(len(deeds) == len(set(deeds)) for deeds in found), text)

    def test_all_deeds_gone_through(self):
        for text in [*SOME, *texts("a" + BRACKETS, 2), *texts("a(]", 4), *texts("()<", 3)]:
            self.held_against(text, pruned_least_mendings(text))

    def test_all_least_mendings_by_their_numbers(self):
        for text in [*SOME, *some_texts(120, 3, 10, 50), *some_texts(60, 8, 14, 51, "aab(([)]"), *FOURTEEN]:
            many = how_many(text)
            if many <= 300:
                self.held_against(text, [kth_mending(text, k) for k in range(many)])


class Shares(unittest.TestCase):
    def test_known(self):
        self.assertEqual(shares_of(""), [])
        self.assertEqual(shares_of("a(b)"), [])
        self.assertEqual(shares_of("("), [((0, "strike", ""), 1), ((1, "put", ")"), 1)])
        self.assertEqual(shares_of("(]"), [((0, "turn", "["), 1), ((1, "turn", ")"), 1)])
        self.assertEqual(shares_of(")("), [
            ((0, "put", "("), 2), ((0, "strike", ""), 2), ((0, "turn", "("), 1), ((0, "turn", "<"), 1),
            ((0, "turn", "["), 1), ((0, "turn", "{"), 1), ((1, "strike", ""), 2), ((1, "turn", ")"), 1),
            ((1, "turn", ">"), 1), ((1, "turn", "]"), 1), ((1, "turn", "}"), 1), ((2, "put", ")"), 2),
        ])
        self.assertEqual(shares_of("(("), [((1, "turn", ")"), 1)])

    def test_of_a_clean_text_none(self):
        for text in ("", "a", "()", "a(b<>)[{}]", "z" * 14, "()" * 7, "(((((((" + ")))))))"):
            self.assertEqual(shares_of(text), [])
            self.assertEqual(always_done(text), [])
            self.assertEqual(always_kept(text), brackets_of(text))

    def test_all_together(self):
        for text in [*SOME, *FOURTEEN, *some_texts(80, 0, 14, 52), *some_texts(5, 20, 30, 53)]:
            together = sum(often for _, often in shares_of(text))
            self.assertEqual(together, least_number(text) * how_many(text), text)

    def test_rising_and_kinds_of_values(self):
        for text in [*SOME, *FOURTEEN]:
            shares, many = shares_of(text), how_many(text)
            self.assertIs(type(shares), list)
            deeds = [deed for deed, _ in shares]
            self.assertEqual(deeds, sorted(set(deeds)), text)
            for share in shares:
                self.assertEqual([type(share), type(share[0]), type(share[1])], [tuple, tuple, int])
                self.assertEqual([type(part) for part in share[0]], [int, str, str])
                self.assertTrue(0 < share[1] <= many, text)

    def test_fourteen_signs_in_good_time(self):
        begin = time.process_time()
        for text in FOURTEEN:
            for ask in (shares_of, always_done, always_kept):
                ask(text)
        self.assertLess(time.process_time() - begin, 20)


class Always(unittest.TestCase):
    def test_known(self):
        self.assertEqual(always_done("(("), [(1, "turn", ")")])
        self.assertEqual(always_kept("(("), [0])
        self.assertEqual(always_done("("), [])
        self.assertEqual(always_kept("("), [])
        self.assertEqual(always_kept("()("), [0, 1])
        self.assertEqual(always_kept("(()"), [2])
        self.assertEqual(always_done("))"), [(0, "turn", "(")])
        self.assertEqual(always_kept("a))"), [2])
        self.assertEqual(always_done("<<{{"), [])
        self.assertEqual(always_kept("<<{{"), [0])
        self.assertEqual(always_done("(((("), [(3, "turn", ")")])
        self.assertEqual(always_kept("(((("), [0])
        self.assertEqual(always_done("((a]]"), [])

    def test_some_have_several(self):
        found = [text for text in texts("()[", 6) if len(always_done(text)) > 1]
        self.assertTrue(found)
        for text in found[:20]:
            for k in range(how_many(text)):
                deeds = kth_mending(text, k)
                for deed in always_done(text):
                    self.assertIn(deed, deeds)

    def test_letters_are_no_brackets(self):
        self.assertEqual(always_kept("abc"), [])
        self.assertEqual(always_kept("a(b)c"), [1, 3])


class OwnLists(unittest.TestCase):
    def test_each_list_is_the_askers_own(self):
        for text in ("", "a", "()", "((", ")(", "(]a"):
            for ask in (shares_of, always_done, always_kept):
                told, other = ask(text), ask(text)
                was = list(other)
                self.assertIsNot(told, other)
                spoil(told)
                self.assertEqual(other, was)
                self.assertEqual(ask(text), was)


if __name__ == "__main__":
    unittest.main()
