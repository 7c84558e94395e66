"""The document's words once more, slow and plain, and things to try the program with."""

import functools
import itertools
import re

LETTERS = "abcdefghijklmnopqrstuvwxyz"
KINDS = ("()", "<>", "[]", "{}")
OPENING = "(<[{"
CLOSING = ")>]}"
SIGNS = LETTERS + OPENING + CLOSING
# All signs that a text may have that is handed in.
ALL_SIGNS = "".join(chr(code) for code in range(32, 127)) + "\n"


class Other:
    """A thing of no kind that the program knows."""


THINGS = (
    None, True, False, 0, 1, -1, 7, 10 ** 40, 3j,
    "", "a", "z", "ab", "A", "(", ")", "()", "(<[{", "a b", " ", "\n", "0", "None", "-",
    b"", b"a", b"(", [], ["a"], [[]], [None], [0], [True], ["ab"], [""],
    {}, {"a": 1}, {0: "a"}, (), (0,), ("(",), ("(", []), ("(", [], []), ("a", "b"),
    [("(",)], [("(", [], [])], {1}, frozenset("a"), range(2), Other(), Other, len,
)


@functools.lru_cache(maxsize=None)
def clean(text):
    """Promise 4, word by word."""
    if text == "":
        return True
    first = text[0]
    if first in LETTERS:
        return clean(text[1:])
    return any(
        first + text[place] in KINDS and clean(text[1:place]) and clean(text[place + 1:])
        for place in range(1, len(text))
    )


def partner_list(text):
    """Promise 5, word by word."""
    told = [None] * len(text)
    for begin, end in itertools.combinations(range(len(text)), 2):
        if text[begin] + text[end] in KINDS and clean(text[begin + 1:end]):
            assert told[begin] is None and told[end] is None
            told[begin], told[end] = end, begin
    return told


def texts(signs, longest):
    """All texts of these signs, to a length."""
    for length in range(longest + 1):
        for several in itertools.product(signs, repeat=length):
            yield "".join(several)


def nests(size, letters="ab", brackets="(["):
    """All nests whose texts have just so many signs."""
    if size == 0:
        return [[]]
    told = []
    for rest in nests(size - 1, letters, brackets):
        told.extend([letter, *rest] for letter in letters)
    for within in range(size - 1):
        for inner in nests(within, letters, brackets):
            for rest in nests(size - 2 - within, letters, brackets):
                told.extend([(bracket, inner), *rest] for bracket in brackets)
    return told


def spelled(nest):
    """The text of a nest."""
    text = ""
    for item in nest:
        if isinstance(item, str):
            text += item
        else:
            text += item[0] + spelled(item[1]) + CLOSING[OPENING.index(item[0])]
    return text


def lines(nest, depth=0):
    """The lines of a nest's outline."""
    told = []
    for item in nest:
        told.append(" " * depth + item[0])
        if isinstance(item, tuple):
            told.extend(lines(item[1], depth + 1))
    return told


def is_outline(text):
    """Whether some nest is written just so."""
    if text == "":
        return True
    room = 0
    for line in text.split("\n"):
        found = re.fullmatch(r"( *)([a-z(<\[{])", line)
        if not found or len(found[1]) > room or len(found[1]) > 59:
            return False
        room = len(found[1]) + (found[2] in OPENING)
    return True


def chain(depth, end=None, bracket="("):
    """A nest with so many brackets one within another, and an end in the innermost."""
    nest = [] if end is None else end
    for _ in range(depth):
        nest = [(bracket, nest)]
    return nest


def lists_in(thing):
    """All lists in a thing, itself too, each as often as it stands there."""
    if not isinstance(thing, (list, tuple)):
        return []
    told = [thing] if isinstance(thing, list) else []
    for part in thing:
        told.extend(lists_in(part))
    return told


def spoil(thing):
    """Change each list in a thing."""
    for one in lists_in(thing):
        one[:] = ["spoiled", *one, ("(", [])]
