"""Promises 7 to 10, and 2 of nests: nests, their texts, paths and outlines."""

import copy
import unittest

from nestmend.errors import NoNest
from nestmend.nests import at_path, depth_of, is_nest, nest_of, outline, paths_of, read_outline, text_of
from tests.oracle import (
    ALL_SIGNS, CLOSING, LETTERS, OPENING, THINGS, chain, clean, is_outline, lines, lists_in, nests, spelled,
    spoil, texts,
)

# Nests with their texts, depths, paths and outlines.
KNOWN = (
    ([], "", 0, [], ""),
    (["a"], "a", 0, [], "a"),
    (["z", "a"], "za", 0, [], "z\na"),
    ([("(", [])], "()", 1, [(0,)], "("),
    (["x", ("<", ["y"]), "z"], "x<y>z", 1, [(1,)], "x\n<\n y\nz"),
    ([("(", []), ("[", []), ("{", [])], "()[]{}", 1, [(0,), (1,), (2,)], "(\n[\n{"),
    ([("(", [("<", [("[", [("{", [])])])])], "(<[{}]>)", 4, [(0,), (0, 0), (0, 0, 0), (0, 0, 0, 0)],
     "(\n <\n  [\n   {"),
    (["a", ("(", ["b", ("[", []), ("{", ["c"])]), ("<", [])], "a(b[]{c})<>", 2,
     [(1,), (1, 1), (1, 2), (2,)], "a\n(\n b\n [\n {\n  c\n<"),
)
SMALL = [nest for size in range(6) for nest in nests(size)]
ALL_SIZES = [*SMALL, *[row[0] for row in KNOWN], chain(60), chain(59, ["a", "b"]), list("ab") * 60,
             [("{", [])] * 60, chain(30, [("[", []), "q"], "<")]

# What may not stand as an item in a nest.
NO_ITEMS = [thing for thing in THINGS if not (thing in ("a", "z") or thing == ("(", []))] + [
    ("(", ["A"]), ("(", ()), ("(", "a"), ("(", None), ("(", ("(", [])), ("(", {}), ["(", []],
    (")", []), (">", []), ("]", []), ("}", []), ("a", []), ("", []), ("((", []), ("()", []), ("(<", []),
    (None, []), (0, []), (b"(", []), (["("], []), ({"(": 1}, []), ([], "("), ("(", [], "a"), ("(",),
    (("(", []), []), *CLOSING, *OPENING, "é", "B",
]


def itself(*ahead):
    """A list that has itself twice within it."""
    nest = list(ahead)
    nest.append(("(", nest))
    nest.append(("[", nest))
    return nest


NO_NESTS = [thing for thing in THINGS if thing != [] and thing != ["a"]] + [
    chain(61), chain(60, ["a"]), chain(60, ["A"]), chain(300), ["a", ("(", chain(60))], itself(), itself("a"),
    ["a", *chain(60, [("(", [])]), "b"],
] + [[item] for item in NO_ITEMS]


class IsNest(unittest.TestCase):
    def test_nests(self):
        for nest in ALL_SIZES:
            self.assertIs(is_nest(nest), True)
        for letter in LETTERS:
            self.assertIs(is_nest([letter]), True)
        for bracket in OPENING:
            self.assertIs(is_nest([(bracket, [])]), True)

    def test_no_nests(self):
        for thing in NO_NESTS:
            with self.subTest(thing=repr(thing)[:80]):
                self.assertIs(is_nest(thing), False)

    def test_no_items_at_any_depth(self):
        for item in NO_ITEMS:
            for depth in (0, 1, 2, 30, 59):
                with self.subTest(item=item, depth=depth):
                    self.assertIs(is_nest(chain(depth, [item])), False)
                    self.assertIs(is_nest(["a", *chain(depth, ["b", item, "c"]), "d"]), False)

    def test_no_nests_where_a_nest_should_stand(self):
        for thing in THINGS:
            if thing != [] and thing != ["a"]:
                for depth in (0, 1, 30, 58):
                    with self.subTest(thing=thing, depth=depth):
                        self.assertIs(is_nest(chain(depth, [("{", thing)])), False)

    def test_how_deep(self):
        self.assertIs(is_nest(chain(60)), True)
        self.assertIs(is_nest(chain(59, ["a"])), True)
        self.assertIs(is_nest(chain(60, ["a"])), False)
        self.assertIs(is_nest(chain(61)), False)
        self.assertIs(is_nest(["a", ("(", []), *chain(61)]), False)

    def test_a_thousand_things(self):
        self.assertIs(is_nest(["a"] * 1000), True)
        self.assertIs(is_nest(["a"] * 999 + ["A"]), False)
        self.assertIs(is_nest([[]] * 1000), False)


class NestOfAndTextOf(unittest.TestCase):
    def test_known(self):
        for nest, text, *_ in KNOWN:
            with self.subTest(text=text):
                self.assertEqual(nest_of(text), nest)
                self.assertEqual(text_of(nest), text)

    def test_each_is_the_others_way_back(self):
        for nest in ALL_SIZES:
            text = text_of(nest)
            self.assertEqual(text, spelled(nest))
            self.assertEqual(nest_of(text), nest)
        self.assertEqual(text_of(chain(60)), "(" * 60 + ")" * 60)

    def test_all_short_texts(self):
        for text in texts("a()[]", 6):
            if clean(text):
                nest = nest_of(text)
                self.assertIs(is_nest(nest), True)
                self.assertEqual(text_of(nest), text)
            else:
                with self.assertRaises(NoNest):
                    nest_of(text)

    def test_kinds_of_values(self):
        nest = nest_of("a(b)")
        self.assertEqual([type(nest), type(nest[0]), type(nest[1]), type(nest[1][1])], [list, str, tuple, list])
        self.assertIs(type(text_of(nest)), str)

    def test_no_nest_of_unclean_texts(self):
        for text in ("(", ")", ")(", "(]", "([)]", "a(b", "a)b", "(" * 120, "(" * 59 + ")" * 60, "<{>}"):
            with self.subTest(text=text), self.assertRaises(NoNest):
                nest_of(text)

    def test_no_nest_of_other_things(self):
        for thing in THINGS:
            if thing not in ("", "a", "z", "ab", "()"):
                with self.subTest(thing=thing), self.assertRaises(NoNest):
                    nest_of(thing)
        for sign in ALL_SIGNS:
            if sign not in LETTERS:
                for text in (sign, "a" + sign, "(" + sign + ")"):
                    with self.subTest(text=text), self.assertRaises(NoNest):
                        nest_of(text)

    def test_a_text_beyond_the_length_is_not_refused(self):
        self.assertEqual(text_of(nest_of("()" * 70)), "()" * 70)
        self.assertEqual(nest_of("(" * 61 + ")" * 61), chain(61))

    def test_no_text_of_no_nest(self):
        for thing in NO_NESTS:
            with self.subTest(thing=repr(thing)[:80]), self.assertRaises(NoNest):
                text_of(thing)


class Paths(unittest.TestCase):
    def test_known(self):
        for nest, text, depth, paths, _ in KNOWN:
            with self.subTest(text=text):
                self.assertEqual(depth_of(nest), depth)
                self.assertEqual(paths_of(nest), paths)

    def test_depth(self):
        for deep in range(61):
            self.assertEqual(depth_of(chain(deep)), deep)
        for deep in range(60):
            self.assertEqual(depth_of(["a", *chain(deep, ["a"]), ("(", [])]), max(deep, 1))

    def test_paths_in_the_order_in_which_they_open(self):
        for nest in ALL_SIZES:
            paths = paths_of(nest)
            self.assertIs(type(paths), list)
            self.assertTrue(all(type(path) is tuple for path in paths))
            self.assertEqual(paths, sorted(paths))
            opening = [sign for sign in spelled(nest) if sign in OPENING]
            self.assertEqual([at_path(nest, path)[0] for path in paths], opening)

    def test_what_stands_at_each_path(self):
        for nest in ALL_SIZES:
            for path in paths_of(nest):
                found = nest
                for place in path:
                    within = found if isinstance(found, list) else found[1]
                    found = within[place]
                told = at_path(nest, path)
                self.assertEqual(told, found)
                self.assertIs(type(told), tuple)

    def test_no_paths(self):
        nest = ["a", ("(", ["b", ("[", []), ("{", ["c"])]), ("<", [])]
        for path in (
            (), (0,), (3,), (99,), (10 ** 40,), (-1,), (-2,), (-3,), (-10 ** 40,), (1, 0), (1, 3), (1, -1),
            (1, -2), (1, 1, 0), (1, 2, 0), (1, 2, 0, 0), (2, 0), (0, 0), (0, 1), (3, 1), (True,), (False,),
            (True, 1), (1, True), (1, True, 0), (1, 1, 0, 0), (1, 1, ()), (None,), (1, None), ("1",), ("",),
            (1, "1"), ((1,),), ([1],), (1, [1]), ({},), (b"1",), (b"",), (1, 1j), [1], [], [1, 1], "1", "",
            "(1,)", {1: 1}, {1}, range(1, 2), 1, 0, 2, True, None, (1,) * 500, (1, slice(1)), (slice(0, 1),),
        ):
            with self.subTest(path=path), self.assertRaises(NoNest):
                at_path(nest, path)

    def test_a_truth_is_no_place(self):
        nest = [("(", [("<", [])]), ("[", [])]
        for path in ((False,), (True,), (0, False), (False, 0)):
            with self.subTest(path=path), self.assertRaises(NoNest):
                at_path(nest, path)

    def test_all_short_paths(self):
        nest = KNOWN[-1][0]
        paths = paths_of(nest)
        places = range(-3, 5)
        for path in [(a,) for a in places] + [(a, b) for a in places for b in places]:
            if path in paths:
                self.assertIs(type(at_path(nest, path)), tuple)
            else:
                with self.assertRaises(NoNest):
                    at_path(nest, path)

    def test_anything_is_no_path(self):
        for thing in THINGS:
            with self.subTest(thing=thing), self.assertRaises(NoNest):
                at_path(["a"], thing)
            if thing != (0,):
                with self.subTest(thing=thing), self.assertRaises(NoNest):
                    at_path([("(", [])], thing)
                with self.subTest(thing=thing), self.assertRaises(NoNest):
                    at_path([("(", [])], (0, thing))

    def test_no_nest_of_no_nest(self):
        for thing in NO_NESTS:
            with self.subTest(thing=repr(thing)[:80]):
                for ask in (depth_of, paths_of, outline):
                    with self.assertRaises(NoNest):
                        ask(thing)
                with self.assertRaises(NoNest):
                    at_path(thing, (0,))


class Outlines(unittest.TestCase):
    def refused(self, text):
        with self.subTest(text=text), self.assertRaises(NoNest):
            read_outline(text)

    def judged(self, text):
        """Read back to the nest that is written so, or refused."""
        if is_outline(text):
            self.assertEqual("\n".join(lines(read_outline(text))), text)
        else:
            self.refused(text)

    def test_known(self):
        for nest, text, _, _, written in KNOWN:
            with self.subTest(text=text):
                self.assertEqual(outline(nest), written)
                self.assertEqual(read_outline(written), nest)

    def test_told_and_read_back(self):
        for nest in ALL_SIZES:
            written = outline(nest)
            self.assertEqual(written, "\n".join(lines(nest)))
            self.assertEqual(read_outline(written), nest)

    def test_refused(self):
        for text in (
            "\n", "\n\n", " ", "  ", "a\n", "\na", "a\n\nb", "a\n \nb", "(\n \n a", " a", "  a", " (", "a\n b",
            "(\n  a", "(\n a\n  b", "(\n\n a", "(\n a\n", "a ", "( ", "( a", "ab", "((", "(a", "()", ")", "(\n)",
            "(\n a\n)", ">", "]", "}", "(\n )", "A", "0", "-", "\n(", "(\n<\n  a", "(\n a\nb\n c", "a\t", "\ta",
            "(\n\ta", "a\r\nb", "a\fb", "a\vb", "a\x1cb", "a\u2028b", "\u00a0a", "é", "(\n\u00a0a", "a b", "none",
        ):
            self.refused(text)

    def test_sixty_deep_and_no_deeper(self):
        sixty = "\n".join(" " * depth + "(" for depth in range(60))
        self.assertEqual(read_outline(sixty), chain(60))
        self.assertEqual(read_outline(sixty + "\n" + " " * 59 + "a"), chain(59, [("(", []), "a"]))
        self.assertEqual(read_outline(sixty + "\na"), [*chain(60), "a"])
        self.refused(sixty + "\n" + " " * 60 + "a")
        self.refused(sixty + "\n" + " " * 60 + "(")
        self.refused(sixty + "\n" + " " * 61 + "a")

    def test_all_short_texts(self):
        small = [nest for size in range(7) for nest in nests(size, "a", "([")]
        written = {"\n".join(lines(nest)) for nest in small}
        for text in texts(" \na([)", 6):
            if is_outline(text):
                # No outline of six signs has more than three lines, so its nest's text at most six signs.
                self.assertIn(text, written)
                self.assertEqual(outline(read_outline(text)), text)
            else:
                with self.assertRaises(NoNest):
                    read_outline(text)

    def test_one_sign_more_or_less_or_other(self):
        for written in ("a", "(", "(\n a", "a\n(\n b\n [\n {\n  c\n<"):
            for place in range(len(written) + 1):
                self.judged(written[:place] + written[place + 1:])
                for sign in ALL_SIGNS:
                    self.judged(written[:place] + sign + written[place:])
                    self.judged(written[:place] + sign + written[place + 1:])

    def test_other_things(self):
        for thing in THINGS:
            if thing not in ("", "a", "z", "("):
                self.refused(thing)


class OwnLists(unittest.TestCase):
    TEXT = "a(b[]{c})<>(<[{}]>)"
    SHARED = ["a", ("(", [])]

    def asks(self):
        """What tells lists, each asked of the same thing each time."""
        nest = nest_of(self.TEXT)
        # Handed in with one list at several places.
        shared = [("{", [("(", self.SHARED), ("[", self.SHARED), ("<", [("(", self.SHARED)])])]
        return (
            lambda: nest_of(self.TEXT), lambda: paths_of(nest), lambda: at_path(nest, (1,)),
            lambda: at_path(nest, (3,)), lambda: at_path(nest, (2,)), lambda: at_path(shared, (0,)),
            lambda: read_outline("a\n(\n b\n [\n {\n  c\n<"), lambda: nest_of(""), lambda: read_outline(""),
            lambda: paths_of([]),
        )

    def test_changing_what_is_told_changes_nothing_told_later(self):
        for place, ask in enumerate(self.asks()):
            with self.subTest(place=place):
                expected = copy.deepcopy(ask())
                told = ask()
                spoil(told)
                self.assertNotEqual(told, expected)
                self.assertEqual(ask(), expected)

    def test_nothing_done_later_changes_what_is_told(self):
        asks = self.asks()
        told = [ask() for ask in asks]
        expected = copy.deepcopy(told)
        for ask in asks:
            spoil(ask())
        self.assertEqual(told, expected)

    def test_no_two_lists_are_one(self):
        for place, ask in enumerate(self.asks()):
            with self.subTest(place=place):
                told = [ask(), ask()]
                seen = [id(one) for one in lists_in(told)]
                self.assertEqual(len(seen), len(set(seen)))

    def test_what_is_told_is_not_what_was_handed_in(self):
        nest = nest_of(self.TEXT)
        handed = [id(one) for one in lists_in(nest)]
        for path in paths_of(nest):
            for one in lists_in(at_path(nest, path)):
                self.assertNotIn(id(one), handed)

    def test_what_was_handed_in_stays(self):
        for nest in ALL_SIZES:
            before = copy.deepcopy(nest)
            for ask in (is_nest, text_of, depth_of, paths_of, outline):
                ask(nest)
            for path in paths_of(nest):
                at_path(nest, path)
            self.assertEqual(nest, before)

    def test_what_is_refused_stays(self):
        for thing in (["a", "A"], [("(", ["a", ")"])], chain(61), [["a"]]):
            before = copy.deepcopy(thing)
            self.assertIs(is_nest(thing), False)
            for ask in (text_of, depth_of, paths_of, outline, nest_of):
                with self.assertRaises(NoNest):
                    ask(thing)
            self.assertEqual(thing, before)

    def test_what_becomes_of_a_list_behind_the_call_changes_nothing(self):
        nest = nest_of(self.TEXT)
        told = [at_path(nest, (1,)), paths_of(nest)]
        expected = copy.deepcopy(told)
        spoil(nest)
        self.assertEqual(told, expected)


if __name__ == "__main__":
    unittest.main()
