"""Promises 11, 12 and 13, and 2 of deeds: deeds, texts behind them, mendings, and deeds that lead back."""

import copy
import itertools
import random
import unittest

from nestmend.deeds import are_deeds, back_from, done, is_mending
from nestmend.errors import NoDeeds
from tests.mendings import BRACKETS, deed_lists, deeds_at, is_list_of_deeds, told_by
from tests.oracle import LETTERS, SIGNS, THINGS, clean, spoil, texts

TEXT = "a(b]()"
# Deeds of TEXT, what they tell, and those that lead back.
KNOWN = (
    ([], "a(b]()", []),
    ([(0, "put", "{")], "{a(b]()", [(0, "strike", "")]),
    ([(6, "put", "{")], "a(b](){", [(6, "strike", "")]),
    ([(2, "put", ")")], "a()b]()", [(2, "strike", "")]),
    ([(1, "strike", "")], "ab]()", [(1, "put", "(")]),
    ([(5, "strike", "")], "a(b](", [(5, "put", ")")]),
    ([(3, "turn", ")")], "a(b)()", [(3, "turn", "]")]),
    ([(1, "turn", ")")], "a)b]()", [(1, "turn", "(")]),
    ([(3, "put", "<"), (3, "put", ">")], "a(b<>]()", [(3, "strike", ""), (4, "strike", "")]),
    ([(3, "put", "<"), (3, "strike", "")], "a(b<()", [(3, "strike", ""), (4, "put", "]")]),
    ([(3, "strike", ""), (4, "put", "<")], "a(b<()", [(3, "put", "]"), (3, "strike", "")]),
    ([(3, "put", "<"), (3, "put", "}"), (3, "turn", "[")], "a(b<}[()",
     [(3, "strike", ""), (4, "strike", ""), (5, "turn", "]")]),
    ([(3, "put", "<"), (3, "put", "["), (3, "strike", ""), (4, "put", ">"), (4, "strike", "")], "a(b<[>)",
     [(3, "strike", ""), (4, "strike", ""), (5, "put", "]"), (5, "strike", ""), (6, "put", "(")]),
    ([(3, "strike", ""), (4, "strike", ""), (5, "strike", "")], "a(b",
     [(3, "put", "]"), (3, "put", "("), (3, "put", ")")]),
    ([(3, "strike", ""), (4, "turn", "<")], "a(b<)", [(3, "put", "]"), (3, "turn", "(")]),
    ([(5, "strike", ""), (6, "put", "{"), (6, "put", "}")], "a(b]({}",
     [(5, "put", ")"), (5, "strike", ""), (6, "strike", "")]),
    ([(0, "put", ")"), (1, "turn", "["), (3, "strike", ""), (5, "put", "<"), (6, "put", ">")], ")a[b(<)>",
     [(0, "strike", ""), (2, "turn", "("), (4, "put", "]"), (5, "strike", ""), (7, "strike", "")]),
)
# Lists that are no deeds of TEXT, though each thing in them is near to one.
NO_DEEDS = (
    [(0, "strike", "")], [(2, "strike", "")], [(6, "strike", "")], [(0, "turn", "(")], [(2, "turn", "]")],
    [(6, "turn", "(")], [(1, "turn", "(")], [(3, "turn", "]")], [(5, "turn", ")")], [(1, "turn", "")],
    [(1, "turn", "a")], [(1, "strike", "(")], [(1, "strike", ")")], [(1, "strike", None)], [(1, "strike", [])],
    [(1, "strike")], [(1, "put")], [(1,)], [()], [(1, "strike", "", "")], [(1, "put", "(", None)],
    [(1, "put", "")], [(1, "put", "a")], [(1, "put", "((")], [(1, "put", "()")], [(1, "put", "<[")],
    [(-1, "put", "(")], [(7, "put", "(")], [(-5, "strike", "")], [(-1, "strike", "")], [(-3, "turn", ")")],
    [(7, "strike", "")], [(7, "turn", "(")], [(10 ** 40, "put", "(")], [(-10 ** 40, "put", "(")],
    [(True, "put", "(")], [(False, "put", "(")], [(True, "strike", "")], [(True, "turn", ")")],
    [[1, "put", "("]], [1, "put", "("], ["put"], ["1+("], [{0: 1, 1: "put", 2: "("}], [None],
    [(1, "PUT", "(")], [(1, "puts", "(")], [(1, "", "(")], [(1, " put", "(")], [(1, "struck", "")],
    [("put", 1, "(")], [(1, "(", "put")], [("1", "put", "(")],
    [(2, "put", "("), (1, "put", "(")], [(3, "strike", ""), (1, "strike", "")], [(1, "strike", ""), (1, "put", "(")],
    [(1, "turn", ")"), (1, "put", "(")], [(1, "strike", ""), (1, "strike", "")], [(1, "turn", ")"), (1, "strike", "")],
    [(1, "strike", ""), (1, "turn", ")")], [(1, "turn", ")"), (1, "turn", "[")], [(1, "turn", ")"), (1, "turn", ")")],
    [(1, "put", "("), (1, "strike", ""), (1, "put", "(")], [(1, "put", "("), (0, "put", "(")],
    [(1, "put", "("), (3, "strike", ""), (2, "put", "(")], [(6, "put", "("), (5, "strike", "")],
    [(1, "put", "("), None], [(1, "put", "("), (1, "put", "A")], [(0, "put", "("), (True, "strike", "")],
)


def itself():
    """A list that has itself within it, and one that has itself within a tuple."""
    one, other = [], []
    one.append(one)
    other.append((0, "put", other))
    return [one, other]


NO_LISTS = [thing for thing in THINGS if thing != []] + itself() + [
    tuple(deeds) for deeds, *_ in KNOWN] + [(1, "put", "("), "none", {(1, "put", "("): 1}]
SHORT = ("", "a", "(", "a(", "])", "()", "<a>", "b[c")


def some_text(chance, longest, signs="ab" + BRACKETS):
    """A text that looks like chance."""
    return "".join(chance.choices(signs, k=chance.randrange(longest + 1)))


def some_deeds(chance, text, most):
    """Deeds of a text that look like chance, many of them at the same places."""
    deeds = []
    for place in sorted(chance.choices(range(len(text) + 1), k=chance.randrange(most + 1))):
        if not deeds or deeds[-1][0] != place or deeds[-1][1] == "put":
            deeds.append(chance.choice([(place, "put", chance.choice(BRACKETS)), *deeds_at(text, place)]))
    return deeds


class AreDeeds(unittest.TestCase):
    def test_known(self):
        for deeds, *_ in KNOWN:
            with self.subTest(deeds=deeds):
                self.assertIs(are_deeds(TEXT, deeds), True)

    def test_none(self):
        for thing in NO_DEEDS:
            with self.subTest(thing=thing):
                self.assertIs(are_deeds(TEXT, thing), False)

    def test_no_lists(self):
        for thing in NO_LISTS:
            for text in SHORT:
                with self.subTest(text=text, thing=repr(thing)):
                    self.assertIs(are_deeds(text, thing), False)

    def test_anything_in_a_list(self):
        for thing in THINGS:
            self.assertIs(are_deeds("((((((((((", [thing]), False)
            self.assertIs(are_deeds("((((((((((", [(0, "put", "("), thing, (5, "strike", "")]), False)

    def test_anything_in_a_deed(self):
        text = "a((((((("
        for thing in THINGS:
            for place, word, sign in ((1, "put", "("), (1, "strike", ""), (1, "turn", ")")):
                for deed in ((thing, word, sign), (place, thing, sign), (place, word, thing)):
                    with self.subTest(deed=repr(deed)):
                        self.assertIs(are_deeds(text, [deed]), is_list_of_deeds(text, [deed]))

    def test_every_place_word_and_sign(self):
        for text in SHORT:
            for deed in itertools.product(
                range(-2, len(text) + 3), ("put", "strike", "turn", "keep", ""), ("", *SIGNS, "()", " "),
            ):
                self.assertIs(are_deeds(text, [deed]), is_list_of_deeds(text, [deed]), (text, deed))

    def test_every_order_of_a_few(self):
        for text in ("(a", "])"):
            few = [(place, "put", bracket) for place in range(3) for bracket in "(>"]
            few += [deed for place in range(2) for deed in deeds_at(text, place) if deed[2] in ("", "{", "}")]
            for many in range(4):
                for several in itertools.product(few, repeat=many):
                    thing = list(several)
                    self.assertIs(are_deeds(text, thing), is_list_of_deeds(text, thing), (text, thing))

    def test_all_lists_gone_through_are_deeds(self):
        for text in SHORT:
            for many in range(3):
                for deeds in deed_lists(text, many):
                    self.assertIs(are_deeds(text, deeds), True, (text, deeds))

    def test_the_end_of_a_text(self):
        for text in ("", "a", "(", "a" * 120, "(" * 120):
            end = len(text)
            for bracket in BRACKETS:
                self.assertIs(are_deeds(text, [(end, "put", bracket)]), True)
                self.assertIs(are_deeds(text, [(end + 1, "put", bracket)]), False)
                self.assertIs(are_deeds(text, [(end, "turn", bracket)]), False)
            self.assertIs(are_deeds(text, [(end, "strike", "")]), False)

    def test_letters_stay(self):
        for place, _ in enumerate(LETTERS):
            self.assertIs(are_deeds(LETTERS, [(place, "strike", "")]), False)
            for bracket in BRACKETS:
                self.assertIs(are_deeds(LETTERS, [(place, "turn", bracket)]), False)
                self.assertIs(are_deeds(LETTERS, [(place, "put", bracket)]), True)

    def test_a_bracket_is_turned_into_each_other_one(self):
        for old, new in itertools.product(BRACKETS, repeat=2):
            self.assertIs(are_deeds("a" + old, [(1, "turn", new)]), old != new)

    def test_eighty_deeds_and_a_thousand_things(self):
        self.assertIs(are_deeds("", [(0, "put", "(")] * 80), True)
        self.assertIs(are_deeds("", [(0, "put", "(")] * 79 + [(1, "put", "(")]), False)
        self.assertIs(are_deeds("(" * 120, [(place, "strike", "") for place in range(80)]), True)
        self.assertIs(are_deeds("a", [None] * 999), False)
        self.assertIs(are_deeds("a", [[]] * 999), False)


class Done(unittest.TestCase):
    def test_known(self):
        for deeds, told, _ in KNOWN:
            with self.subTest(deeds=deeds):
                self.assertEqual(done(TEXT, deeds), told)
                self.assertEqual(told_by(TEXT, deeds), told)

    def test_all_lists_of_a_few(self):
        for text in SHORT:
            for many in range(3):
                for deeds in deed_lists(text, many):
                    self.assertEqual(done(text, deeds), told_by(text, deeds), (text, deeds))

    def test_longer_texts(self):
        chance = random.Random(12)
        for _ in range(300):
            text = some_text(chance, 120)
            deeds = some_deeds(chance, text, 80)
            self.assertEqual(done(text, deeds), told_by(text, deeds), (text, deeds))

    def test_puts_at_one_place_stand_as_the_deeds_do(self):
        self.assertEqual(done("", [(0, "put", bracket) for bracket in "([{<>}])"]), "([{<>}])")
        self.assertEqual(done("ab", [(1, "put", bracket) for bracket in ")("]), "a)(b")

    def test_refused(self):
        for thing in [*NO_DEEDS, *NO_LISTS]:
            with self.subTest(thing=repr(thing)):
                with self.assertRaises(NoDeeds):
                    done(TEXT, thing)

    def test_nothing_is_changed(self):
        for thing in [*NO_DEEDS, *[list(deeds) for deeds, *_ in KNOWN]]:
            was = copy.deepcopy(thing)
            are_deeds(TEXT, thing)
            is_mending(TEXT, thing)
            for told in (done, back_from):
                try:
                    told(TEXT, thing)
                except NoDeeds:
                    pass
            self.assertEqual(repr(thing), repr(was))


class IsMending(unittest.TestCase):
    def test_some(self):
        self.assertIs(is_mending("", []), True)
        self.assertIs(is_mending("a()", []), True)
        self.assertIs(is_mending("(", []), False)
        self.assertIs(is_mending("(", [(0, "strike", "")]), True)
        self.assertIs(is_mending("(", [(1, "put", ")")]), True)
        self.assertIs(is_mending("(", [(0, "put", ")")]), False)
        self.assertIs(is_mending("(", [(1, "put", "]")]), False)
        self.assertIs(is_mending("(]", [(1, "turn", ")")]), True)
        self.assertIs(is_mending("(]", [(0, "turn", "<"), (1, "turn", ">")]), True)

    def test_more_deeds_than_needed(self):
        self.assertIs(is_mending("()", [(0, "strike", ""), (1, "strike", "")]), True)
        self.assertIs(is_mending("", [(0, "put", "("), (0, "put", ")")]), True)
        self.assertIs(is_mending("a", [(0, "put", "("), (1, "put", ")")]), True)

    def test_all_lists_of_a_few(self):
        for text in SHORT:
            for many in range(3):
                for deeds in deed_lists(text, many):
                    self.assertIs(is_mending(text, deeds), clean(told_by(text, deeds)), (text, deeds))

    def test_of_anything(self):
        for thing in [*NO_DEEDS, *NO_LISTS]:
            with self.subTest(thing=repr(thing)):
                self.assertIs(is_mending(TEXT, thing), False)
                if not isinstance(thing, list):
                    self.assertIs(is_mending("", thing), False)
                    self.assertIs(is_mending("a", thing), False)

    def test_what_would_be_clean_but_is_no_deeds(self):
        for text, thing in (
            ("a", [(0, "strike", "")]), ("(", ((0, "strike", ""),)), ("(", [[0, "strike", ""]]),
            ("(", [(False, "strike", "")]), ("(", [(-1, "strike", "")]), ("a(", [(True, "strike", "")]),
            ("((", [(1, "strike", ""), (0, "strike", "")]), ("()", [(0, "turn", "(")]), ("", ()), ("", None),
        ):
            self.assertIs(is_mending(text, thing), False, (text, thing))

    def test_long_texts(self):
        text = "(" * 120
        self.assertIs(is_mending(text, [(place, "turn", ")") for place in range(60, 120)]), True)
        self.assertIs(is_mending(text, [(place, "turn", ")") for place in range(60, 119)]), False)
        self.assertIs(is_mending("<" * 80, [(80, "put", ">")] * 80), True)


class BackFrom(unittest.TestCase):
    def leads_back(self, text, deeds):
        told = back_from(text, deeds)
        behind = told_by(text, deeds)
        self.assertIsInstance(told, list)
        self.assertTrue(is_list_of_deeds(behind, told), (text, deeds, told))
        self.assertEqual(told_by(behind, told), text, (text, deeds, told))
        self.assertEqual(back_from(behind, told), deeds, (text, deeds, told))
        words = {"put": "strike", "strike": "put", "turn": "turn"}
        self.assertEqual([word for _, word, _ in told], [words[word] for _, word, _ in deeds])

    def test_known(self):
        for deeds, told, back in KNOWN:
            with self.subTest(deeds=deeds):
                self.assertEqual(back_from(TEXT, deeds), back)
                self.assertEqual(back_from(told, back), deeds)

    def test_all_lists_of_a_few(self):
        for text in SHORT:
            for many in range(3):
                for deeds in deed_lists(text, many):
                    self.leads_back(text, deeds)

    def test_all_short_texts(self):
        chance = random.Random(13)
        for text in texts("a()", 4):
            for _ in range(20):
                self.leads_back(text, some_deeds(chance, text, 8))

    def test_longer_texts(self):
        chance = random.Random(14)
        for _ in range(150):
            text = some_text(chance, 40)
            self.leads_back(text, some_deeds(chance, text, 80))

    def test_a_hundred_and_twenty_signs(self):
        many = list(range(80))
        self.leads_back("(" * 120, [(place, "strike", "") for place in many])
        self.leads_back("a" * 40, [(20, "put", bracket) for bracket in BRACKETS * 10])
        self.leads_back("[" * 120, [(place + 40, "turn", "]") for place in many])
        self.leads_back("(" * 80, [deed for place in range(40) for deed in (
            (place, "put", "{"), (place, "strike", ""))])
        self.assertEqual(
            back_from("(" * 120, [(place, "strike", "") for place in many]), [(0, "put", "(")] * 80)
        self.assertEqual(
            back_from("a" * 40, [(20, "put", "<")] * 80), [(place, "strike", "") for place in range(20, 100)])

    def test_struck_ones_are_put_where_they_stood(self):
        # Where brackets are put right ahead of the struck one and right behind it, it stood between them.
        self.assertEqual(
            back_from("(", [(0, "put", "<"), (0, "strike", ""), (1, "put", "<")]),
            [(0, "strike", ""), (1, "put", "("), (1, "strike", "")],
        )

    def test_refused(self):
        for thing in [*NO_DEEDS, *NO_LISTS]:
            with self.subTest(thing=repr(thing)):
                with self.assertRaises(NoDeeds):
                    back_from(TEXT, thing)

    def test_the_list_is_the_askers_own(self):
        deeds = [(1, "strike", ""), (3, "turn", ")")]
        told = back_from(TEXT, deeds)
        self.assertIsNot(told, deeds)
        spoil(told)
        self.assertEqual(deeds, [(1, "strike", ""), (3, "turn", ")")])
        self.assertEqual(back_from(TEXT, deeds), [(1, "put", "("), (2, "turn", "]")])
        none = []
        self.assertIsNot(back_from(TEXT, none), none)


if __name__ == "__main__":
    unittest.main()
