"""Promises 14, 15 and 16: the least number, its table, the small checker, and papers."""

import copy
import random
import time
import unittest

from nestmend.counted import kth_mending
from nestmend.deeds import is_mending
from nestmend.least import is_low, is_paper, least_number, least_table, paper_of
from nestmend.signs import in_kinds, turned_about
from tests.mendings import BRACKETS, few_by_checker, least_mendings, mendings_within, pruned_least_mendings, some_texts
from tests.oracle import THINGS, clean, lists_in, spoil, texts

SOME = ("", "a", "(", "()", ")(", "(]", "a(b]", "([)]", "<<<", "}a{", "(a[b)c]", "]](((", "<{[(")
FORTY = (")(" * 20, "([<{" * 10, ")" * 20 + "(" * 20, "(]" * 20, "a)" * 20, "([)]" * 10, "(" * 40, "z" * 40, "()" * 20)


def itself():
    """A list that has itself within it."""
    one = []
    one.append(one)
    return one


def entries(text):
    """The places of all entries of a text's table."""
    return [(begin, at) for begin in range(len(text) + 1) for at in range(len(text) - begin + 1)]


def is_low_by_words(text, table):
    """Promise 15 of a table of the right form, word by word."""
    size = len(text)

    def entry(begin, end):
        return table[begin][end - begin]

    for begin in range(size + 1):
        if entry(begin, begin) != 0:
            return False
        for end in range(begin + 1, size + 1):
            if text[begin] == "a":
                sums = [entry(begin + 1, end)]
            else:
                sums = [entry(begin + 1, end) + 1]
                for place in range(begin + 1, end):
                    if text[place] != "a":
                        turned = min((text[begin] != one) + (text[place] != other) for one, other in (
                            "()", "<>", "[]", "{}"))
                        sums.append(entry(begin + 1, place) + entry(place + 1, end) + turned)
            if any(entry(begin, end) > one for one in sums):
                return False
    return True


class LeastNumber(unittest.TestCase):
    def test_known(self):
        for text, few in (
            ("", 0), ("a", 0), ("()", 0), ("a(b<c>)", 0), ("(", 1), (")", 1), ("((", 1), ("))", 1), ("(]", 1),
            (")(", 2), ("([)]", 2), ("(((", 2), ("(a<b", 1), ("}{", 2), (")))(((", 4), ("([{<", 2), ("a)b(c", 2),
        ):
            with self.subTest(text=text):
                self.assertEqual(least_number(text), few)
                self.assertIs(type(least_number(text)), int)

    def test_against_all_deeds(self):
        for text in [*texts("a" + BRACKETS, 2), *texts("a()[]", 3)]:
            self.assertEqual(least_number(text), len(least_mendings(text)[0]), text)

    def test_somewhat_longer_against_all_deeds(self):
        for text in [*SOME, *texts("a(]", 4), *texts("()", 5), *some_texts(30, 4, 7, 30)]:
            self.assertEqual(least_number(text), len(pruned_least_mendings(text)[0]), text)

    def test_nought_just_of_clean_texts(self):
        for text in texts("a()[]", 5):
            self.assertEqual(least_number(text) == 0, clean(text), text)

    def test_as_many_deeds_as_the_least_mendings(self):
        for text in some_texts(60, 0, 14, 31):
            deeds = kth_mending(text, 0)
            self.assertEqual(least_number(text), len(deeds), text)

    def test_turned_about_and_in_other_kinds(self):
        for text in [*some_texts(40, 0, 40, 32), *FORTY]:
            few = least_number(text)
            self.assertEqual(least_number(turned_about(text)), few, text)
            self.assertEqual(least_number(in_kinds(text, "<{([")), few, text)

    def test_forty_signs_in_good_time(self):
        begin = time.process_time()
        for text, few in zip(FORTY, (2, 20, 20, 20, 10, 11, 20, 0, 0)):
            self.assertEqual(least_number(text), few, text)
            self.assertEqual(least_number(text), few_by_checker(text), text)
            least_table(text)
        self.assertLess(time.process_time() - begin, 20)


class LeastTable(unittest.TestCase):
    def test_known(self):
        self.assertEqual(least_table(""), [[0]])
        self.assertEqual(least_table("a"), [[0, 0], [0]])
        self.assertEqual(least_table("("), [[0, 1], [0]])
        self.assertEqual(least_table(")("), [[0, 1, 2], [0, 1], [0]])
        self.assertEqual(least_table("()"), [[0, 1, 0], [0, 1], [0]])
        self.assertEqual(least_table("(a]"), [[0, 1, 1, 1], [0, 0, 1], [0, 1], [0]])

    def test_each_entry_against_all_deeds(self):
        for text in [*SOME, *texts("a(]", 3), *some_texts(15, 4, 6, 33)]:
            table = least_table(text)
            for begin, at in entries(text):
                few = len(pruned_least_mendings(text[begin:begin + at])[0])
                self.assertEqual(table[begin][at], few, (text, begin, at))

    def test_each_entry_is_the_least_number_of_its_signs(self):
        for text in some_texts(10, 10, 20, 34) + list(FORTY[:2]):
            table = least_table(text)
            for begin, at in entries(text)[::7]:
                self.assertEqual(table[begin][at], least_number(text[begin:begin + at]), (text, begin, at))

    def test_a_list_of_lists_of_whole_numbers(self):
        for text in [*SOME, *FORTY]:
            table = least_table(text)
            self.assertIs(type(table), list)
            self.assertEqual([len(row) for row in table], list(range(len(text) + 1, 0, -1)))
            for row in table:
                self.assertIs(type(row), list)
                self.assertEqual({type(entry) for entry in row}, {int})

    def test_each_list_is_the_askers_own(self):
        for text in [*SOME, FORTY[0]]:
            table, other = least_table(text), least_table(text)
            was = copy.deepcopy(table)
            seen = [id(one) for one in lists_in([table, other])]
            self.assertEqual(len(seen), len(set(seen)))
            spoil(table)
            self.assertEqual(other, was)
            self.assertEqual(least_table(text), was)


class IsLow(unittest.TestCase):
    def refused(self, text, thing):
        self.assertIs(is_low(text, thing), False, (text, repr(thing)[:200]))

    def test_the_least_table(self):
        for text in [*SOME, *FORTY, *texts("a(]", 4), *some_texts(30, 0, 27, 35)]:
            self.assertIs(is_low(text, least_table(text)), True, text)

    def test_anything(self):
        for text in SOME:
            for thing in [*THINGS, itself(), [itself()]]:
                if not (text == "" and thing == [[0]]):
                    self.refused(text, thing)
                for at in range(len(text) + 1):
                    table = least_table(text)
                    if at < len(text) or thing != [0]:
                        table[at] = thing
                        self.refused(text, table)

    def test_anything_as_an_entry(self):
        for text in ("", "a", "(]", "a("):
            for thing in [*THINGS, itself()]:
                if type(thing) is int:
                    continue
                for begin, at in entries(text):
                    table = least_table(text)
                    table[begin][at] = thing
                    self.refused(text, table)

    def test_tuples_for_lists_and_truths_for_numbers(self):
        for text in SOME:
            table = least_table(text)
            self.refused(text, tuple(table))
            self.refused(text, [tuple(row) for row in table])
            for at in range(len(table)):
                self.refused(text, [*table[:at], tuple(table[at]), *table[at + 1:]])
            for begin, at in entries(text):
                other = least_table(text)
                if other[begin][at] in (0, 1):
                    other[begin][at] = bool(other[begin][at])
                    self.refused(text, other)

    def test_too_few_and_too_many(self):
        for text in SOME:
            table = least_table(text)
            self.refused(text, [])
            self.refused(text, table[:-1])
            self.refused(text, table[1:])
            for more in ([], [0], [0, 0]):
                self.refused(text, [*table, more])
                self.refused(text, [more, *table])
            for at in range(len(table)):
                for row in (table[at][:-1], [*table[at], 0], [*table[at], -9], [0, *table[at]], []):
                    self.refused(text, [*table[:at], row, *table[at + 1:]])
        self.refused("", least_table("a"))
        self.refused("a", least_table(""))

    def test_rows_of_full_width(self):
        self.refused("((", [[0, 1, 1], [0, 0, 1], [0, 0, 0]])
        self.refused("((", [[0, 0, 0], [0, 0, 0], [0, 0, 0]])

    def test_no_signs_are_nought(self):
        for text in SOME:
            for begin in range(len(text) + 1):
                for wrong in (1, -1, 5, -10 ** 40):
                    table = least_table(text)
                    table[begin][0] = wrong
                    self.refused(text, table)

    def test_one_more_at_each_place(self):
        for text in [*SOME, *texts("a(]", 4), "([)]<" * 3, "a(b[c<d{e)f>g]"]:
            for begin, at in entries(text):
                for more in (1, 2, 10 ** 40):
                    table = least_table(text)
                    table[begin][at] += more
                    self.refused(text, table)

    def test_lowered(self):
        for text in SOME:
            nought = [[0] * len(row) for row in least_table(text)]
            self.assertIs(is_low(text, nought), True, text)
            # The longer a stretch the lower its entry, so no sum of others is too low for it.
            deep = [[-(10 ** 6) * (3 ** at - 1) for at in range(len(row))] for row in nought]
            self.assertIs(is_low(text, deep), True, text)
            if text:
                table = least_table(text)
                table[0][-1] -= 1
                self.assertIs(is_low(text, table), True, text)
                table[0][-1] -= 10 ** 40
                self.assertIs(is_low(text, table), True, text)

    def test_an_entry_lowered_lets_no_greater_one_be(self):
        self.refused("(a", [[0, 1, 1], [0, -1], [0]])
        self.refused("ab", [[0, 0, 0], [0, -1], [0]])
        self.refused("(b)", [[0, 1, 1, 0], [0, -1, 1], [0, 1], [0]])
        self.refused("(b)", [[0, 1, 0, 0], [0, -1, 1], [0, 1], [0]])
        self.assertIs(is_low("(b)", [[0, 1, 0, -1], [0, -1, 1], [0, 1], [0]]), True)
        # Here each sum by itself is the one that is too low.
        self.refused("()", [[0, 1, 1], [0, 1], [0]])
        self.refused("(]", [[0, 1, 2], [0, 1], [0]])
        self.refused(")(", [[0, 1, 3], [0, 1], [0]])
        self.refused("((", [[0, 1, 2], [0, 1], [0]])
        self.refused("))", [[0, 1, 2], [0, 1], [0]])

    def test_against_the_words_of_the_promise(self):
        chance = random.Random(36)
        told = []
        for text in [*texts("a(]", 3), *some_texts(150, 2, 6, 37)]:
            for _ in range(20):
                table = least_table(text)
                for row in table:
                    for at in range(1, len(row)):
                        if chance.random() < 0.3:
                            row[at] += chance.choice((-3, -2, -1, -1, -1, 1))
                told.append(is_low(text, table))
                self.assertIs(told[-1], is_low_by_words(text, table), (text, table))
        self.assertGreater(told.count(True), 200)
        self.assertGreater(told.count(False), 200)

    def test_no_stretch_is_mended_with_fewer(self):
        for text in SOME:
            table = least_table(text)
            for begin, at in entries(text):
                few = table[begin][at]
                if few > 0:
                    self.assertEqual(list(mendings_within(text[begin:begin + at], few - 1)), [])

    def test_what_is_handed_in_stays(self):
        for text in SOME:
            for table in (least_table(text), [[0]], [[0, 5], [True]], [["a"]]):
                was = copy.deepcopy(table)
                is_low(text, table)
                is_paper(text, [], table)
                self.assertEqual(repr(table), repr(was))


class Papers(unittest.TestCase):
    def refused(self, text, deeds, table):
        self.assertIs(is_paper(text, deeds, table), False, (text, repr(deeds), repr(table)[:200]))

    def test_told_ones(self):
        for text in [*SOME, *texts("a(]", 4), *some_texts(60, 0, 8, 38)]:
            paper = paper_of(text)
            self.assertIs(type(paper), tuple)
            deeds, table = paper
            self.assertEqual(deeds, kth_mending(text, 0))
            self.assertIs(is_low(text, table), True)
            self.assertEqual(len(deeds), table[0][-1])
            self.assertIs(is_paper(text, deeds, table), True, text)

    def test_the_first_least_mending(self):
        for text in ("", "(", ")(", "([)]", "a(b", "<<<", "(]}"):
            self.assertEqual(paper_of(text)[0], pruned_least_mendings(text)[0], text)

    def test_each_least_mending(self):
        for text in SOME:
            for deeds in pruned_least_mendings(text):
                self.assertIs(is_paper(text, deeds, least_table(text)), True, (text, deeds))

    def test_another_low_table(self):
        self.assertIs(is_paper("(", [(0, "strike", "")], [[0, 1], [0]]), True)
        self.assertIs(is_paper("(]", [(0, "turn", "[")], [[0, 0, 1], [0, 0], [0]]), True)
        self.assertIs(is_paper("(]", [(0, "turn", "[")], [[0, -7, 1], [0, 1], [0]]), True)

    def test_twenty_seven_signs(self):
        for text in [*some_texts(10, 27, 27, 39), "(" * 27, ")(" * 13 + "a"]:
            table, deeds = least_table(text), kth_mending(text, 0)
            self.assertIs(is_paper(text, deeds, table), True, text)
            table[0][-1] -= 1
            self.refused(text, deeds, table)
            table[0][-1] += 2
            self.refused(text, deeds, table)

    def test_one_deed_more(self):
        for text in SOME:
            few = least_number(text)
            longer = [deeds for deeds in mendings_within(text, few + 1) if len(deeds) == few + 1][:20]
            table, raised = least_table(text), least_table(text)
            raised[0][-1] += 1
            for deeds in longer:
                self.assertIs(is_mending(text, deeds), True)
                self.refused(text, deeds, table)
                self.refused(text, deeds, raised)
        self.refused("()", [(0, "strike", ""), (1, "strike", "")], least_table("()"))
        self.refused("", [(0, "put", "("), (0, "put", ")")], [[0]])

    def test_deeds_that_do_not_mend(self):
        for text, deeds in (
            ("(", [(0, "put", "(")]), ("(", [(0, "turn", ")")]), ("([)]", [(0, "strike", ""), (1, "strike", "")]),
            (")(", [(0, "strike", ""), (1, "turn", ")")]), ("(", [(False, "strike", "")]), ("(", [(-1, "strike", "")]),
            ("a(", [(True, "strike", "")]), ("(", [(5, "put", ")")]), ("a(", [(0, "strike", "")]),
        ):
            self.assertEqual(len(deeds), least_number(text))
            self.refused(text, deeds, least_table(text))
        lowered = [[0, 0], [0]]
        self.refused("(", [], lowered)

    def test_a_table_that_is_not_let_by(self):
        for text in SOME:
            for begin, at in entries(text):
                table = least_table(text)
                table[begin][at] += 1
                for deeds in pruned_least_mendings(text)[:3]:
                    self.refused(text, deeds, table)

    def test_another_number_of_the_whole_text(self):
        for text in SOME[1:]:
            table = least_table(text)
            table[0][-1] -= 1
            self.assertIs(is_low(text, table), True)
            self.refused(text, kth_mending(text, 0), table)

    def test_anything_in_both(self):
        for text in ("", "a", "(", "(]", ")("):
            deeds, table = paper_of(text)
            for thing in [*THINGS, itself(), tuple(deeds), tuple(table), (deeds, table)]:
                if thing != deeds:
                    self.refused(text, thing, table)
                if thing != table:
                    self.refused(text, deeds, thing)
                self.refused(text, thing, thing)
        for text in ("(", ")(", "([)]"):
            deeds, table = paper_of(text)
            self.refused(text, table, deeds)

    def test_each_list_is_the_askers_own(self):
        for text in SOME:
            told, other = paper_of(text), paper_of(text)
            was = copy.deepcopy(other)
            seen = [id(one) for one in lists_in([told, other])]
            self.assertEqual(len(seen), len(set(seen)))
            spoil(told)
            self.assertEqual(other, was)
            self.assertEqual(paper_of(text), was)

    def test_what_is_handed_in_stays(self):
        for text in SOME:
            deeds, table = paper_of(text)
            was = copy.deepcopy((deeds, table))
            is_paper(text, deeds, table)
            self.assertEqual((deeds, table), was)


if __name__ == "__main__":
    unittest.main()
