"""Promise 31: deeds written and read back, and shares written."""

import copy
import itertools
import random
import re
import unittest

from nestmend.counted import how_many, kth_mending
from nestmend.deeds import are_deeds
from nestmend.errors import NoWriting
from nestmend.shares import shares_of
from nestmend.written import read_deeds, show_deeds, show_shares
from tests.mendings import BRACKETS, deeds_at, some_texts
from tests.oracle import ALL_SIGNS, THINGS, spoil, texts

KNOWN = (
    ([], "none"),
    ([(0, "put", "(")], "0+("),
    ([(0, "strike", "")], "0-"),
    ([(0, "turn", "}")], "0=}"),
    ([(1, "put", "<"), (1, "put", ">"), (1, "strike", "")], "1+<, 1+>, 1-"),
    ([(9, "turn", "["), (10, "strike", ""), (39, "turn", ")"), (40, "put", "]")], "9=[, 10-, 39=), 40+]"),
    ([(0, "put", "{"), (0, "turn", "("), (7, "put", ")"), (7, "put", ")"), (39, "strike", "")],
     "0+{, 0=(, 7+), 7+), 39-"),
)
REFUSED = (
    "", " ", "\n", ",", ", ", "none ", " none", "none\n", "\nnone", "None", "NONE", "non", "nonee", "none, none",
    "none, 0-", "0-, none", "0", "+", "-", "=", "+(", "=(", "-(", "(", "0(", "0+", "0=", "0-(", "0-0", "0-a", "0- ",
    "0+a", "0=a", "0+((", "0+()", "0=()", "0+ (", "0 +(", " 0+(", "0+( ", "0+(\n", "\n0+(", "0+(,1+(", "0+( ,1+(",
    "0+(,  1+(", "0+(, ", ", 0+(", "0+(,", "0+(, , 1+(", "0+(,\n1+(", "0+(\n1+(", "0+(; 1+(", "0+( 1+(", "0+(,, 1+(",
    "00+(", "01+(", "007-", "00-", "+0+(", "-0+(", "-1+(", "--", "1--", "0+-", "0+=", "0==", "0=-", "0++", "0-+(",
    "0_1+(", "1_0+(", "0x1+(", "1.0+(", "1e1+(", "a+(", "41+(", "40-", "40=(", "41-", "41=(", "50+(", "99+(", "100+(",
    "39+(, 100+(", "1000-", "123456789012345678901234567890+(", "1-, 0-", "1+(, 0+(", "1=(, 0+(", "10-, 9-",
    "0-, 0-", "0-, 0+(", "0=(, 0=)", "0=(, 0=(", "0-, 0=(", "0=(, 0-", "0=(, 0+(", "0+(, 0-, 0+(", "0+(, 0-, 0-",
    "1+(, 2-, 1+(", "0:(", "0*(", "0/(", "put", "0 put (", "0put(", "(0, 'put', '(')", "[]", "[(0, 'put', '(')]", "~",
    "0+|", "0+~", "0=/", "0+A", "0+0",
)
ONE = re.compile(r"(0|[1-9][0-9]?)(?:([+=])([()<>\[\]{}])|(-))")


def read_plainly(text):
    """The deeds of a writing, or None, by the words of the promise."""
    if text == "none":
        return []
    deeds = []
    for part in text.split(", "):
        found = ONE.fullmatch(part)
        if not found:
            return None
        word = {"+": "put", "=": "turn", "-": "strike"}[found[2] or found[4]]
        place = int(found[1])
        if place > (40 if word == "put" else 39):
            return None
        if deeds and (deeds[-1][0] > place or deeds[-1][0] == place and deeds[-1][1] != "put"):
            return None
        deeds.append((place, word, found[3] or ""))
    return deeds


def some_deeds(chance, text, most):
    """Deeds of a text that look like chance."""
    deeds = []
    for place in sorted(chance.choices(range(len(text) + 1), k=chance.randrange(most + 1))):
        if not deeds or deeds[-1][0] != place or deeds[-1][1] == "put":
            deeds.append(chance.choice([(place, "put", chance.choice(BRACKETS)), *deeds_at(text, place)]))
    return deeds


class Deeds(unittest.TestCase):
    def there_and_back(self, deeds):
        written = show_deeds(deeds)
        self.assertIs(type(written), str)
        self.assertEqual(read_deeds(written), deeds)
        self.assertEqual(show_deeds(read_deeds(written)), written)
        return written

    def judged(self, text):
        """Read back to the deeds that are written so, or refused."""
        deeds = read_plainly(text)
        if deeds is None:
            with self.subTest(text=text), self.assertRaises(NoWriting):
                read_deeds(text)
        else:
            self.assertEqual(read_deeds(text), deeds, text)
            self.assertEqual(show_deeds(deeds), text)

    def test_known(self):
        for deeds, written in KNOWN:
            with self.subTest(written=written):
                self.assertEqual(self.there_and_back(deeds), written)

    def test_every_deed(self):
        for place in range(41):
            for bracket in BRACKETS:
                self.assertEqual(self.there_and_back([(place, "put", bracket)]), str(place) + "+" + bracket)
        for place in range(40):
            self.assertEqual(self.there_and_back([(place, "strike", "")]), str(place) + "-")
            for bracket in BRACKETS:
                self.assertEqual(self.there_and_back([(place, "turn", bracket)]), str(place) + "=" + bracket)

    def test_deeds_of_texts(self):
        chance = random.Random(80)
        for text in some_texts(150, 0, 40, 81):
            self.there_and_back(some_deeds(chance, text, 80))

    def test_least_mendings(self):
        for text in (")(", "([)]", "a(b[c", "<<<", "()"):
            for k in range(how_many(text)):
                self.there_and_back(kth_mending(text, k))

    def test_eighty_deeds(self):
        for deeds in (
            [(0, "put", "(")] * 80, [(40, "put", "}")] * 80,
            [deed for place in range(40) for deed in ((place, "put", "<"), (place, "strike", ""))],
            [deed for place in range(40) for deed in ((place, "put", "<"), (place, "turn", ">"))],
        ):
            self.assertEqual(len(deeds), 80)
            self.assertEqual(self.there_and_back(deeds).count(", "), 79)

    def test_what_is_read_is_deeds_of_some_text(self):
        for _, written in KNOWN:
            deeds = read_deeds(written)
            turned = {place: sign for place, word, sign in deeds if word == "turn"}
            text = "".join("(" if turned.get(place) != "(" else ")" for place in range(40))
            self.assertIs(are_deeds(text, deeds), True)

    def test_kinds_of_values(self):
        deeds = read_deeds("1+<, 1-, 2=(")
        self.assertIs(type(deeds), list)
        for deed in deeds:
            self.assertEqual([type(deed), *[type(part) for part in deed]], [tuple, int, str, str])

    def test_refused(self):
        for text in REFUSED:
            with self.subTest(text=text), self.assertRaises(NoWriting):
                read_deeds(text)
            self.assertIsNone(read_plainly(text), text)

    def test_no_texts(self):
        for thing in THINGS:
            with self.subTest(thing=repr(thing)), self.assertRaises(NoWriting):
                read_deeds(thing)

    def test_many_figures(self):
        for many in (3, 30, 4299, 4301, 9000):
            for text in ("1" * many + "+(", "0" * many + "-", "1, " * many, "0-, " * many):
                with self.assertRaises(NoWriting):
                    read_deeds(text)

    def test_all_short_texts(self):
        for text in texts("041+-=(,\n ", 4):
            self.judged(text)

    def test_pairs_of_deeds(self):
        parts = ["0+(", "0+}", "0-", "0=<", "1+(", "1-", "1=>", "40+[", "40-", "39-", "39=[", "00-", "none", "", " 1-"]
        for many in (1, 2, 3):
            for several in itertools.product(parts, repeat=many):
                self.judged(", ".join(several))

    def test_one_sign_more_or_less_or_other(self):
        for written in ("none", "0-", "3+(", "10=]", "0+(, 0-, 12=<", "39-, 40+)"):
            for place in range(len(written) + 1):
                self.judged(written[:place] + written[place + 1:])
                for sign in ALL_SIGNS:
                    self.judged(written[:place] + sign + written[place:])
                    self.judged(written[:place] + sign + written[place + 1:])

    def test_lists_are_the_askers_own(self):
        for _, written in KNOWN:
            told, other = read_deeds(written), read_deeds(written)
            was = list(other)
            self.assertIsNot(told, other)
            spoil(told)
            self.assertEqual(other, was)
            self.assertEqual(read_deeds(written), was)

    def test_what_is_handed_in_stays(self):
        for deeds, _ in KNOWN:
            was = copy.deepcopy(deeds)
            show_deeds(deeds)
            self.assertEqual(deeds, was)


class Shares(unittest.TestCase):
    def test_known(self):
        self.assertEqual(show_shares([]), "")
        self.assertEqual(show_shares([((0, "strike", ""), 1)]), "0- 1")
        self.assertEqual(show_shares([((0, "strike", ""), 1), ((1, "put", ")"), 1)]), "0- 1\n1+) 1")
        self.assertEqual(show_shares(shares_of("(]")), "0=[ 1\n1=) 1")
        self.assertEqual(show_shares(shares_of("a()")), "")

    def test_numbers_of_many_figures(self):
        for often in (1, 10, 99, 1234567, 10 ** 30, 2 ** 200, 10 ** 100 - 1):
            self.assertEqual(show_shares([((12, "turn", "{"), often)]), "12={ " + str(often))
            self.assertEqual(
                show_shares([((0, "put", "("), often), ((40, "put", ")"), 7)]), f"0+( {often}\n40+) 7")

    def test_by_lines(self):
        for text in [")(", "([)]", "(((((((", *some_texts(20, 0, 14, 82)]:
            shares = shares_of(text)
            lines = [f"{show_deeds([deed])} {often}" for deed, often in shares]
            self.assertEqual(show_shares(shares), "\n".join(lines))

    def test_what_is_handed_in_stays(self):
        shares = shares_of(")(")
        was = list(shares)
        show_shares(shares)
        self.assertEqual(shares, was)


if __name__ == "__main__":
    unittest.main()
