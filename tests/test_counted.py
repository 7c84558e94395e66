"""Promises 17, 18 and 19: how many least mendings there are, each by its number, and the number of each."""

import copy
import itertools
import random
import time
import unittest

from nestmend.counted import how_many, kth_mending, number_of
from nestmend.deeds import is_mending
from nestmend.errors import NoDeeds, NoNumber
from nestmend.signs import in_kinds, turned_about
from tests.mendings import BRACKETS, few_by_checker, least_mendings, pruned_least_mendings, some_texts
from tests.oracle import THINGS, spoil, texts

# Whole numbers of THINGS are tried by themselves.
NO_NUMBERS = [thing for thing in THINGS if type(thing) is not int] + [[0], (0,), "1", b"0", {0: 0}, -1, -2, -10 ** 40]
# Texts that need several deeds, or have several brackets put at one place.
HARD = (")(](", "](}<", "a)b(c", "([)]", "((((", "))))", "(((", "<<<>", "{a[b", "<(a]", "}}((", "[)(]")
LONG = (
    ")(" * 7, "([<{" * 3 + "((", ")]>}" * 3 + "}}", ")" * 7 + "(" * 7, "(" * 13 + "a", "a(b[c<d{e)f>g]",
    "([)]" * 3 + "<>",
    "(]" * 7, "{" * 7 + ")" * 7, "ab)cd)ef)gh)ij", "a" * 14, "()" * 7, "<[" * 3 + "a" + ")}" * 3 + "b",
)


def catalan(many):
    """In how many ways so many pairs of brackets of one kind can stand."""
    told = 1
    for at in range(many):
        told = told * 2 * (2 * at + 1) // (at + 2)
    return told


class AgainstAllDeeds(unittest.TestCase):
    def held_against(self, text, found):
        self.assertEqual(how_many(text), len(found), text)
        for number, deeds in enumerate(found):
            self.assertEqual(kth_mending(text, number), deeds, (text, number))
            self.assertEqual(number_of(text, deeds), number, (text, deeds))
        with self.assertRaises(NoNumber):
            kth_mending(text, len(found))

    def test_all_texts_of_two_signs(self):
        for text in texts("a" + BRACKETS, 2):
            self.held_against(text, least_mendings(text))

    def test_all_texts_of_three_signs(self):
        for text in texts("a()[]", 3):
            self.held_against(text, least_mendings(text))

    def test_hard_ones(self):
        for text in HARD:
            self.held_against(text, pruned_least_mendings(text))

    def test_both_ways_of_going_through_all(self):
        for text in [*texts("a(]", 3), "))((", "({a"]:
            self.assertEqual(pruned_least_mendings(text), least_mendings(text), text)

    def test_longer_ones(self):
        for text in some_texts(40, 4, 7, 15) + some_texts(40, 4, 8, 16, "ab()[]") + some_texts(20, 6, 9, 17, "aab()"):
            if few_by_checker(text) <= 3:
                self.held_against(text, pruned_least_mendings(text))

    def test_where_puts_may_stand(self):
        self.held_against("ab)", [[(0, "put", "(")], [(1, "put", "(")], [(2, "put", "(")], [(2, "strike", "")]])
        self.held_against("(ab", [[(0, "strike", "")], [(1, "put", ")")], [(2, "put", ")")], [(3, "put", ")")]])
        self.held_against("(]", [[(0, "turn", "[")], [(1, "turn", ")")]])
        self.held_against(")(", [
            [(0, "put", "("), (1, "strike", "")], [(0, "put", "("), (2, "put", ")")],
            [(0, "strike", ""), (1, "strike", "")], [(0, "strike", ""), (2, "put", ")")],
            [(0, "turn", "("), (1, "turn", ")")], [(0, "turn", "<"), (1, "turn", ">")],
            [(0, "turn", "["), (1, "turn", "]")], [(0, "turn", "{"), (1, "turn", "}")],
        ])


class HowMany(unittest.TestCase):
    def test_clean_texts_have_one(self):
        for text in ("", "a", "()", "a(b<>)[{}]", "z" * 40, "()" * 20, "(" * 20 + ")" * 20):
            self.assertEqual(how_many(text), 1, text)
            self.assertEqual(kth_mending(text, 0), [])
            self.assertEqual(number_of(text, []), 0)

    def test_a_whole_number(self):
        for text in ("", "a", "(", ")(", "(" * 40):
            self.assertIs(type(how_many(text)), int)

    def test_opening_brackets_alone(self):
        # An even number of them: half are turned, in each way in which pairs can stand.
        for half in range(1, 21):
            self.assertEqual(how_many("(" * 2 * half), catalan(half))
            self.assertEqual(how_many(("(<[{" * 10)[:2 * half]), catalan(half))
            self.assertEqual(how_many((")>]}" * 10)[:2 * half]), catalan(half))

    def test_letters_ahead_of_a_closing_bracket(self):
        for many in range(40):
            self.assertEqual(how_many("a" * many + "]"), many + 2)
            self.assertEqual(how_many("{" + "a" * many), many + 2)

    def test_turned_about_and_in_other_kinds(self):
        for text in some_texts(25, 0, 40, 18) + some_texts(15, 20, 40, 19, "()[") + list(LONG):
            many = how_many(text)
            self.assertGreater(many, 0)
            self.assertEqual(how_many(turned_about(text)), many, text)
            for order in ("<[{(", "{[<(", "(<{["):
                self.assertEqual(how_many(in_kinds(text, order)), many, text)

    def test_forty_signs_in_good_time(self):
        begin = time.process_time()
        for text in (")(" * 20, "([<{" * 10, ")" * 20 + "(" * 20, "(]" * 20, "a)" * 20, "([)]" * 10):
            self.assertGreater(how_many(text), 1)
        self.assertLess(time.process_time() - begin, 20)


class ByNumber(unittest.TestCase):
    def numbers(self, text, most):
        many = how_many(text)
        if many <= most:
            return list(range(many))
        chance = random.Random(text)
        return sorted({0, 1, many // 2, many - 2, many - 1, *[chance.randrange(many) for _ in range(most)]})

    def test_rising_and_there_and_back(self):
        for text in [*LONG, *HARD, *some_texts(30, 0, 14, 20), *some_texts(20, 10, 14, 21, "()[]")]:
            numbers = self.numbers(text, 30)
            told = [kth_mending(text, number) for number in numbers]
            few = few_by_checker(text)
            for number, deeds in zip(numbers, told):
                self.assertIs(is_mending(text, deeds), True, (text, deeds))
                self.assertEqual(len(deeds), few, (text, deeds))
                self.assertEqual(number_of(text, deeds), number, (text, deeds))
            for one, other in itertools.pairwise(told):
                self.assertLess(one, other, text)

    def test_each_has_just_one_number(self):
        for text in (")" * 4 + "(" * 4, "([)]", "a(b[c<d", "(]" * 4, "<" * 9):
            told = [kth_mending(text, number) for number in range(how_many(text))]
            self.assertEqual(told, sorted(told))
            self.assertEqual(len({tuple(deeds) for deeds in told}), len(told))

    def test_first_and_last(self):
        self.assertEqual(kth_mending("(", 0), [(0, "strike", "")])
        self.assertEqual(kth_mending("(", 1), [(1, "put", ")")])
        self.assertEqual(kth_mending("((", 0), [(1, "turn", ")")])
        self.assertEqual(kth_mending(")(", 7), [(0, "turn", "{"), (1, "turn", "}")])

    def test_a_little_beyond_fourteen(self):
        for text in ("(" * 20, ")(" * 9, "([)]" * 5, "a(b[c<d{e)f>g]h}i"):
            many = how_many(text)
            for number in (0, many // 3, many - 1):
                self.assertEqual(number_of(text, kth_mending(text, number)), number)

    def test_fourteen_signs_in_good_time(self):
        begin = time.process_time()
        for text in LONG:
            last = how_many(text) - 1
            self.assertEqual(number_of(text, kth_mending(text, last)), last)
        self.assertLess(time.process_time() - begin, 20)

    def test_kinds_of_values(self):
        told = kth_mending("(]a<", 1)
        self.assertIs(type(told), list)
        for deed in told:
            self.assertEqual([type(deed), *[type(part) for part in deed]], [tuple, int, str, str])
        self.assertIs(type(number_of("(]a<", told)), int)

    def test_the_list_is_the_askers_own(self):
        for text in ("()", "(", "(]a<"):
            told = kth_mending(text, 0)
            was = list(told)
            self.assertIsNot(kth_mending(text, 0), told)
            spoil(told)
            self.assertEqual(kth_mending(text, 0), was)
            self.assertEqual(number_of(text, was), 0)


class Refused(unittest.TestCase):
    def test_no_numbers(self):
        for text in ("", "()", "(", "a(b]", ")(", "(" * 14):
            many = how_many(text)
            for k in [*NO_NUMBERS, many, many + 1, many * 10, 10 ** 40]:
                with self.subTest(text=text, k=repr(k)):
                    with self.assertRaises(NoNumber):
                        kth_mending(text, k)
            kth_mending(text, many - 1)

    def test_truths_are_no_numbers(self):
        for k in (True, False):
            for text in ("", "(", ")("):
                with self.assertRaises(NoNumber):
                    kth_mending(text, k)

    def refused(self, text, thing):
        was = copy.deepcopy(thing) if isinstance(thing, list) else None
        with self.assertRaises(NoDeeds, msg=(text, repr(thing))):
            number_of(text, thing)
        if isinstance(thing, list):
            self.assertEqual(repr(thing), repr(was))

    def test_no_deeds_of_anything(self):
        itself = []
        itself.append(itself)
        for text in ("", "()", "(", "a(b]", ")("):
            for thing in [*THINGS, itself, [(0, "strike")], [(0, "strike", None)], ((0, "strike", ""),)]:
                if thing != []:
                    self.refused(text, thing)
        for thing in ((), None, "", {}, 0, False, "none"):
            self.refused("", thing)

    def test_no_mending(self):
        for text, thing in (
            ("(", []), ("(]", [(1, "strike", "")]), ("(", [(0, "put", ")")]), ("()", [(0, "strike", "")]),
            ("([)]", [(1, "strike", "")]), (")(", []), (")(", [(0, "strike", "")]), ("(", [(1, "put", "]")]),
        ):
            self.refused(text, thing)

    def test_mendings_that_are_not_least(self):
        for text, thing in (
            ("", [(0, "put", "("), (0, "put", ")")]), ("()", [(0, "strike", ""), (1, "strike", "")]),
            ("()", [(0, "turn", "["), (1, "turn", "]")]), ("(]", [(0, "strike", ""), (1, "strike", "")]),
            ("(", [(0, "turn", "["), (1, "put", "]")]), ("(]", [(0, "turn", "<"), (1, "turn", ">")]),
            (")(", [(0, "put", "("), (1, "put", "("), (1, "turn", ")")]), ("a", [(0, "put", "("), (1, "put", ")")]),
        ):
            self.assertIs(is_mending(text, thing), True, (text, thing))
            self.refused(text, thing)

    def test_least_ones_that_are_spoiled(self):
        for text in (")(", "([)]", "a(b[c", "<<<"):
            for k in range(how_many(text)):
                deeds = kth_mending(text, k)
                self.refused(text, tuple(deeds))
                self.refused(text, deeds[:-1])
                self.refused(text, deeds + deeds[-1:] + [(len(text), "put", "("), (len(text), "put", ")")])
                self.refused(text, [list(deed) for deed in deeds])
                if len(deeds) > 1 and deeds[0] != deeds[1]:
                    self.refused(text, [deeds[1], deeds[0], *deeds[2:]])
        self.refused("(", [(False, "strike", "")])
        self.refused("a(", [(True, "strike", "")])
        self.refused("(", [(True, "put", ")")])

    def test_what_is_handed_in_stays(self):
        deeds = kth_mending(")(", 3)
        was = list(deeds)
        self.assertEqual(number_of(")(", deeds), 3)
        self.assertEqual(deeds, was)


if __name__ == "__main__":
    unittest.main()
