"""Promises 1, 2 and 3 over the whole program: what the stages tell of one text goes together."""

import copy
import inspect
import random
import unittest

from nestmend import bywords, counted, deeds, desk, errors, keeper, least, nests, shares, signs, stretches, written
from nestmend.bywords import kth_by, least_by, many_by
from nestmend.counted import how_many, kth_mending, number_of
from nestmend.deeds import are_deeds, back_from, done, is_mending
from nestmend.desk import Desk
from nestmend.keeper import Keeper
from nestmend.least import is_low, is_paper, least_number, least_table, paper_of
from nestmend.nests import at_path, depth_of, nest_of, outline, paths_of, read_outline, text_of
from nestmend.shares import always_done, always_kept, shares_of
from nestmend.signs import is_clean, partners
from nestmend.stretches import clean_ends, is_clean_stretch, longest_clean, many_clean
from nestmend.written import read_deeds, show_deeds, show_shares
from tests.mendings import ALL_WORDS, WORDS, some_texts
from tests.oracle import clean, lists_in, spoil, texts

SOME = [
    "", "a", "()", "(", ")(", "(]", "a(b]", "([)]", "<<<", "}a{", "(a[b)c]", "]](((", "<{[(", "a(b[]{c})<>",
    *some_texts(25, 2, 9, 95),
]
# Each module's names and how many arguments they take.
INTERFACE = (
    (signs, {"is_clean": 1, "partners": 1, "turned_about": 1, "in_kinds": 2}),
    (nests, {
        "is_nest": 1, "nest_of": 1, "text_of": 1, "depth_of": 1, "paths_of": 1, "at_path": 2, "outline": 1,
        "read_outline": 1,
    }),
    (deeds, {"are_deeds": 2, "done": 2, "is_mending": 2, "back_from": 2}),
    (least, {"least_number": 1, "least_table": 1, "is_low": 2, "is_paper": 3, "paper_of": 1}),
    (counted, {"how_many": 1, "kth_mending": 2, "number_of": 2}),
    (bywords, {"least_by": 2, "many_by": 2, "kth_by": 3}),
    (shares, {"shares_of": 1, "always_done": 1, "always_kept": 1}),
    (stretches, {"is_clean_stretch": 3, "many_clean": 1, "longest_clean": 1, "clean_ends": 2}),
    (keeper, {"Keeper": 0}),
    (written, {"show_deeds": 1, "read_deeds": 1, "show_shares": 1}),
    (desk, {"Desk": 0}),
)
METHODS = {
    Keeper: {"put": 1, "take": 0, "text": 0, "least": 0, "many": 0, "clean": 0, "wrote": 0, "column": 0},
    Desk: {"say": 1},
}


def numbers(many):
    """Some numbers from 0 on and below many."""
    return sorted({0, many // 3, many // 2, many - 1})


def kept(text):
    """A keeper that comes to a text with signs put and taken on the way."""
    chance = random.Random(text)
    told = Keeper()
    for sign in text:
        for _ in range(chance.randrange(3)):
            told.put(chance.choice("a(]<"))
            told.take()
        told.put(sign)
    return told


def asked(text):
    """All that is told of a text, as one list of things."""
    many = how_many(text)
    mendings = [kth_mending(text, k) for k in numbers(many)]
    told = [
        is_clean(text), partners(text), least_number(text), least_table(text), paper_of(text[:8]), many, mendings,
        shares_of(text), always_done(text), always_kept(text), many_clean(text), longest_clean(text),
        [clean_ends(text, end) for end in range(len(text) + 1)], [back_from(text, one) for one in mendings],
        [(least_by(text, words), many_by(text, words)) for words in ALL_WORDS],
        [kth_by(text, words, 0) for words in ALL_WORDS if many_by(text, words)],
        [read_deeds(show_deeds(one)) for one in mendings], kept(text).column(),
    ]
    if is_clean(text):
        nest = nest_of(text)
        told.extend([nest, paths_of(nest), read_outline(outline(nest))])
        told.append([at_path(nest, path) for path in paths_of(nest)])
    return told


class Interface(unittest.TestCase):
    def test_names_and_arguments(self):
        for module, names in INTERFACE:
            for name, many in names.items():
                found = getattr(module, name)
                self.assertEqual(found.__module__, module.__name__, name)
                self.assertEqual(len(inspect.signature(found).parameters), many, name)

    def test_methods_stand_in_their_classes(self):
        for one, names in METHODS.items():
            for name, many in names.items():
                self.assertIn(name, vars(one))
                self.assertEqual(len(inspect.signature(vars(one)[name]).parameters), many + 1, name)

    def test_refusals(self):
        for name in ("NoNest", "NoDeeds", "NoNumber", "NoSign", "NoWriting", "NoRow"):
            self.assertEqual(getattr(errors, name).__bases__, (errors.MendError,))


class Together(unittest.TestCase):
    def test_mended_texts(self):
        for text in SOME:
            for k in numbers(how_many(text)):
                mending = kth_mending(text, k)
                mended = done(text, mending)
                self.assertTrue(clean(mended), (text, mended))
                self.assertEqual(text_of(nest_of(mended)), mended)
                self.assertEqual(read_outline(outline(nest_of(mended))), nest_of(mended))
                self.assertEqual(least_number(mended), 0)
                self.assertEqual(how_many(mended), 1)
                self.assertEqual(shares_of(mended), [])
                self.assertEqual(longest_clean(mended), (0, len(mended)) if mended else None)
                self.assertEqual(done(mended, back_from(text, mending)), text)
                self.assertEqual(number_of(text, read_deeds(show_deeds(mending))), k)
                self.assertTrue(is_paper(text, mending, least_table(text)))

    def test_a_keeper_and_a_desk_tell_the_same(self):
        for text in SOME:
            for k in numbers(how_many(text)):
                mending = kth_mending(text, k)
                for one in (text, done(text, mending)):
                    self.told_by_both(one)
                office = Desk()
                for row in ("text " + text, "put a", "take"):
                    office.say(row)
                self.assertEqual(office.say(f"kth {k}"), show_deeds(mending))
                self.assertEqual(office.say(f"mended {k}"), done(text, mending) or "none")

    def told_by_both(self, text):
        one, office = kept(text), Desk()
        office.say("text (((")
        for _ in range(3):
            office.say("take")
        for sign in text:
            office.say("put " + sign)
        self.assertEqual(one.text(), text)
        self.assertEqual(office.say("show"), text or "none")
        self.assertEqual(str(one.least()), office.say("least"))
        self.assertEqual(str(one.many()), office.say("many"))
        self.assertEqual(str(one.clean()), office.say("clean"))
        self.assertEqual((one.least(), one.many(), one.clean()), (least_number(text), how_many(text), many_clean(text)))
        self.assertEqual(office.say("always"), show_deeds(always_done(text)))
        table = least_table(text)
        self.assertEqual(one.column(), [table[begin][-1] for begin in range(len(text) + 1)])
        if clean(text):
            self.assertEqual(office.say("nest"), outline(nest_of(text)) or "none")

    def test_no_fewer_by_any_words(self):
        for text in SOME:
            self.assertEqual(least_by(text, WORDS), least_number(text))
            self.assertTrue(is_low(text, least_table(text)))
            for words in ALL_WORDS:
                few = least_by(text, words)
                self.assertTrue(few is None or few >= least_number(text))

    def test_shares_and_places(self):
        for text in SOME:
            told = shares_of(text)
            self.assertEqual(sum(often for _, often in told), least_number(text) * how_many(text))
            self.assertEqual(len(show_shares(told).split("\n")) if told else 0, len(told))
            for deed, _ in told:
                self.assertIs(are_deeds(text, [deed]), True)

    def test_clean_stretches_are_those_of_least_number_nought(self):
        for text in SOME:
            table = least_table(text)
            for begin in range(len(text)):
                for end in range(begin + 1, len(text) + 1):
                    self.assertEqual(table[begin][end - begin] == 0, is_clean_stretch(text, begin, end))

    def test_depth_and_paths(self):
        for text in texts("a()", 6):
            if clean(text):
                nest = nest_of(text)
                self.assertEqual(len(paths_of(nest)), text.count("("))
                self.assertEqual(depth_of(nest), max((len(path) for path in paths_of(nest)), default=0))


class OwnLists(unittest.TestCase):
    """Promise 2."""

    def test_told_lists(self):
        for text in SOME[:16]:
            told, other = asked(text), asked(text)
            seen = [id(one) for one in lists_in([told, other])]
            self.assertEqual(len(seen), len(set(seen)), text)
            was = copy.deepcopy(other)
            spoil(told)
            self.assertEqual(other, was)
            self.assertEqual(asked(text), was)

    def test_what_is_handed_in_is_neither_changed_nor_kept(self):
        for text in SOME[:16]:
            mending, table, share = kth_mending(text, 0), least_table(text), shares_of(text)
            was = copy.deepcopy([mending, table, share])
            told = [
                are_deeds(text, mending), done(text, mending), is_mending(text, mending), back_from(text, mending),
                is_low(text, table), is_paper(text, mending, table), number_of(text, mending), show_deeds(mending),
                show_shares(share),
            ]
            self.assertEqual([mending, table, share], was)
            expected = copy.deepcopy(told)
            spoil([mending, table, share])
            self.assertEqual(told, expected)


if __name__ == "__main__":
    unittest.main()
