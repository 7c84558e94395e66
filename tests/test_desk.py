"""Promise 32, and what the interface says of rows."""

import itertools
import random
import time
import unittest

from nestmend.bywords import least_by
from nestmend.counted import how_many, kth_mending
from nestmend.deeds import done
from nestmend.desk import Desk
from nestmend.errors import MendError, NoNest, NoNumber, NoRow, NoSign
from nestmend.least import least_number
from nestmend.nests import nest_of, outline
from nestmend.shares import always_done
from nestmend.stretches import longest_clean, many_clean
from nestmend.written import show_deeds
from tests.mendings import ALL_WORDS, WORDS, some_texts
from tests.oracle import ALL_SIGNS, SIGNS, THINGS, clean, texts

ALONE = ("take", "show", "least", "many", "clean", "longest", "always", "nest")
NO_ROWS = (
    "", " ", "  ", "\n", "text", "put", "by", "kth", "mended", "Text a", "TEXT a", "texta", "text\na", "Show", "SHOW",
    "text  a", "text a ", "text a b", "text A", "text 0", "text a\n", "text a.b", "text none!", "text  ", "text \n",
    "text " + "a" * 41, "text " + "(" * 41, "text " + "a" * 400, "put ", "put  ", "put ab", "put a ", "put  a",
    "put A", "put 0", "put ()", "put a b", "put \n", "put a\n", "put ~", "put none", " put a", " text a", "put-a",
    "take a", "take 1", "take take", "show all", "least 1", "many (", "clean a", "longest 0", "always 0", "nest 0",
    "kth ", "kth  ", "kth 00", "kth 01", "kth -1", "kth +1", "kth -0", "kth 1.0", "kth a", "kth 0 ", "kth  0",
    "kth 0 0", "kth 1_0", "kth 0x1", "kth 1e3", "kth 0\n", "kth\n0", "kth (0)", "kth one", "kth " + "1" * 31,
    "kth " + "9" * 100, "kth " + "0" * 30, "kth " + "1" * 5000,
    "mended ", "mended 00", "mended 01", "mended -1", "mended +1", "mended a",
    "mended 0 ", "mended  0", "mended 0 1", "mended " + "1" * 31, "mended " + "1" * 5000, "mended 0\n",
    "by ", "by  ", "by put put", "by turn put", "by strike put", "by turn strike", "by strike strike", "by turn turn",
    "by put turn strike", "by strike put turn", "by turn strike put", "by put strike turn put",
    "by put strike strike", "by put  turn", "by put ", "by  put", "by put,turn", "by puts", "by Put", "by put\n",
    "by none", "by a", "by putstrike", "by 0", "by put strike turn ", "say", "wrote", "column", "text() a", "keeper",
    "number 0", "shares", "help", "none", "ok", "a", "(", "0", "how many", "kth0", "mended0", "byput", "take\n",
    "\ntake", "take\nshow", "nest\n", "tak", "takes",
)


def desk_with(text):
    """A desk with a text."""
    desk = Desk()
    assert desk.say("text " + text) == "ok"
    return desk


def state(desk):
    """What a desk tells of its text without a refusal."""
    return [desk.say(row) for row in ("show", "least", "many", "clean", "longest", "by put", "by turn", "always")]


def or_none(text):
    """The answer for a text."""
    return text if text else "none"


class Rows(unittest.TestCase):
    def says(self, desk, row, answer):
        told = desk.say(row)
        self.assertIs(type(told), str)
        self.assertEqual(told, answer, row)

    def test_a_talk(self):
        desk = Desk()
        for row, answer in (
            ("show", "none"), ("least", "0"), ("many", "1"), ("clean", "0"), ("longest", "none"), ("always", "none"),
            ("nest", "none"), ("kth 0", "none"), ("mended 0", "none"), ("by put", "0"), ("by turn", "0"),
            ("text a(b]", "ok"), ("show", "a(b]"), ("least", "1"), ("many", "2"), ("clean", "2"), ("kth 0", "1=["),
            ("kth 1", "3=)"), ("mended 0", "a[b]"), ("mended 1", "a(b)"), ("by put", "2"), ("by strike", "2"),
            ("by turn", "1"), ("by put strike turn", "1"), ("longest", "0 1"), ("always", "none"), ("put )", "ok"),
            ("show", "a(b])"), ("take", ")"), ("take", "]"), ("put )", "ok"), ("nest", "a\n(\n b"), ("longest", "0 4"),
            ("text ((", "ok"), ("always", "1=)"), ("text (", "ok"), ("mended 0", "none"), ("mended 1", "()"),
            ("kth 0", "0-"), ("kth 1", "1+)"), ("by turn", "none"), ("text ", "ok"), ("show", "none"),
            ("put n", "ok"), ("show", "n"), ("nest", "n"), ("take", "n"), ("show", "none"),
            ("text )(", "ok"), ("kth 1", "0+(, 2+)"), ("mended 1", "()()"), ("mended 2", "none"), ("many", "8"),
        ):
            self.says(desk, row, answer)

    def test_each_row_against_the_stages(self):
        for text in [*texts("a(]", 3), *some_texts(40, 3, 9, 90, "ab()[]<")]:
            desk, many = desk_with(text), how_many(text)
            self.says(desk, "show", or_none(text))
            self.says(desk, "least", str(least_number(text)))
            self.says(desk, "many", str(many))
            self.says(desk, "clean", str(many_clean(text)))
            self.says(desk, "always", show_deeds(always_done(text)))
            longest = longest_clean(text)
            self.says(desk, "longest", "none" if longest is None else f"{longest[0]} {longest[1]}")
            for k in {0, many // 2, many - 1}:
                deeds = kth_mending(text, k)
                self.says(desk, f"kth {k}", show_deeds(deeds))
                self.says(desk, f"mended {k}", or_none(done(text, deeds)))
            for words in ALL_WORDS:
                few = least_by(text, words)
                self.says(desk, "by " + " ".join(words), "none" if few is None else str(few))
            if clean(text):
                self.says(desk, "nest", or_none(outline(nest_of(text))))
            self.says(desk, "show", or_none(text))

    def test_every_sign_is_put_and_taken(self):
        desk = Desk()
        for sign in SIGNS:
            self.says(desk, "put " + sign, "ok")
            self.says(desk, "show", sign)
            self.says(desk, "take", sign)
            self.says(desk, "text " + sign, "ok")
            self.says(desk, "take", sign)

    def test_text_takes_the_place_of_the_old_one(self):
        desk = desk_with("a(b]")
        for text in ("", "()", "a" * 40, "(" * 40, "none", "text", "z"):
            self.says(desk, "text " + text, "ok")
            self.says(desk, "show", or_none(text))
        self.says(desk, "put )", "ok")
        self.says(desk, "show", "z)")

    def test_forty_signs(self):
        for text in ("([)]" * 10, "(" * 40, "z" * 40):
            desk = desk_with(text)
            self.says(desk, "least", str(least_number(text)))
            self.says(desk, "clean", str(many_clean(text)))
            self.says(desk, "show", text)
        self.says(desk_with("(" * 20 + ")" * 20), "nest", "\n".join(" " * depth + "(" for depth in range(20)))

    def test_nine_and_fourteen_signs_in_good_time(self):
        begin = time.process_time()
        for text in ("(((((((((", ")))))((((", "([<{(<[{(", "(](](](](", ")()()()()"):
            desk = desk_with(text)
            last = how_many(text) - 1
            for row in (f"kth {last}", f"mended {last}", "always"):
                desk.say(row)
            desk = desk_with((text + text)[:14])
            for words in ALL_WORDS:
                desk.say("by " + " ".join(words))
            desk.say("many")
        self.assertLess(time.process_time() - begin, 20)

    def test_numbers_of_thirty_figures(self):
        desk = desk_with("(")
        for word in ("kth", "mended"):
            with self.assertRaises(NoNumber):
                desk.say(word + " " + "9" * 30)
            with self.assertRaises(NoNumber):
                desk.say(word + " 1" + "0" * 29)


class Refused(unittest.TestCase):
    def refused(self, desk, row, error):
        was = state(desk)
        with self.subTest(row=repr(row)[:80]), self.assertRaises(error) as caught:
            desk.say(row)
        self.assertIs(type(caught.exception), error, row)
        self.assertEqual(state(desk), was)

    def test_no_texts(self):
        for text in ("", "a("):
            desk = desk_with(text)
            for thing in THINGS:
                if not isinstance(thing, str):
                    self.refused(desk, thing, NoRow)
            for thing in (b"show", ["show"], ("show",), {"show": 1}, 0, True, None):
                self.refused(desk, thing, NoRow)

    def test_no_rows(self):
        for text in ("", "a(", "()"):
            desk = desk_with(text)
            for row in NO_ROWS:
                self.refused(desk, row, NoRow)

    def test_blanks_ahead_and_behind_and_two(self):
        desk = desk_with("a(")
        rows = [*ALONE, "put a", "kth 0", "mended 0", *["by " + " ".join(words) for words in ALL_WORDS]]
        for row in rows:
            for other in (" " + row, row + " ", row + "  ", "\n" + row, row + "\n", row.upper(), row + " a", row + row):
                self.refused(desk, other, NoRow)
            if " " in row:
                self.refused(desk, row.replace(" ", "  ", 1), NoRow)
                self.refused(desk, row.replace(" ", "\n", 1), NoRow)
                self.refused(desk, row.replace(" ", "", 1), NoRow)

    def test_all_words_in_all_orders(self):
        desk = desk_with("(]")
        for many in (1, 2, 3, 4):
            for several in itertools.product(WORDS, repeat=many):
                row = "by " + " ".join(several)
                if several in ALL_WORDS:
                    self.assertEqual(desk.say(row), "1" if "turn" in several else "2")
                else:
                    self.refused(desk, row, NoRow)

    def test_every_other_sign(self):
        desk = desk_with("a")
        for sign in ALL_SIGNS:
            if sign not in SIGNS:
                for row in ("put " + sign, "text " + sign, "text a" + sign, "text " + sign + "("):
                    self.refused(desk, row, NoRow)
            if not sign.isdigit():
                for row in ("kth " + sign, "kth " + sign + "0", "mended 1" + sign):
                    self.refused(desk, row, NoRow)

    def test_no_sign(self):
        self.refused(Desk(), "take", NoSign)
        desk = desk_with("a" * 40)
        for sign in SIGNS:
            self.refused_lightly(desk, "put " + sign, NoSign)
        desk.say("take")
        self.assertEqual(desk.say("put ("), "ok")
        self.refused_lightly(desk, "put (", NoSign)

    def refused_lightly(self, desk, row, error):
        was = [desk.say("show"), desk.say("least"), desk.say("clean")]
        with self.assertRaises(error) as caught:
            desk.say(row)
        self.assertIs(type(caught.exception), error)
        self.assertEqual([desk.say("show"), desk.say("least"), desk.say("clean")], was)

    def test_no_row_goes_ahead_of_no_sign(self):
        desk = desk_with("a" * 40)
        for row in ("put A", "put", "put ", "put ab", "put  a", "text " + "a" * 41):
            self.refused_lightly(desk, row, NoRow)
        for row in ("take ", "take 1", " take", "takes"):
            self.refused(Desk(), row, NoRow)

    def test_no_number(self):
        for text in ("", "()", "(", ")(", "a(b]"):
            desk, many = desk_with(text), how_many(text)
            for k in (many, many + 1, 10 ** 29):
                for word in ("kth", "mended"):
                    self.refused(desk, f"{word} {k}", NoNumber)
                    self.refused(desk, f"{word} 0{k}", NoRow)
                    self.refused(desk, f"{word} -{k}", NoRow)

    def test_no_nest(self):
        for text in ("(", ")(", "([)]", "a(b]"):
            desk = desk_with(text)
            self.refused(desk, "nest", NoNest)
            self.refused(desk, "nest ", NoRow)
            self.refused(desk, " nest", NoRow)

    def test_at_first(self):
        for row in NO_ROWS:
            self.refused(Desk(), row, NoRow)


class Apart(unittest.TestCase):
    def test_two_desks(self):
        one, other = Desk(), Desk()
        one.say("text a(b")
        self.assertEqual(other.say("show"), "none")
        other.say("put )")
        self.assertEqual(one.say("show"), "a(b")
        one.say("take")
        self.assertEqual(other.say("show"), ")")

    def test_a_desk_that_comes_to_a_text_by_any_way(self):
        chance = random.Random(91)
        desk, text = Desk(), ""
        for _ in range(250):
            row = chance.choice(["take", "take", "put", "put", "put", "text", "bad"])
            if row == "take" and text:
                self.assertEqual(desk.say("take"), text[-1])
                text = text[:-1]
            elif row == "put" and len(text) < 9:
                text += chance.choice("ab()[]")
                self.assertEqual(desk.say("put " + text[-1]), "ok")
            elif row == "text" and chance.random() < 0.2:
                text = some_texts(1, 0, 9, chance.random(), "a()[]<")[0]
                self.assertEqual(desk.say("text " + text), "ok")
            elif row == "bad":
                with self.assertRaises(MendError):
                    desk.say(chance.choice(NO_ROWS))
            self.assertEqual(state(desk), state(desk_with(text)), text)
            self.assertEqual(desk.say("show"), or_none(text))


if __name__ == "__main__":
    unittest.main()
