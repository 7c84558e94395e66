"""Clean texts as nests: lists of letters and of tuples (bracket, nest)."""

from nestmend.errors import NoNest
from nestmend.signs import CLOSING, OPENING, OTHER, is_clean, is_letter, is_opening
from nestmend.whole import is_whole

DEEPEST = 60


def is_nest(thing):
    """True where the thing, whatever it is, is a nest."""
    return is_nest_within(thing, DEEPEST)


def is_nest_within(thing, room):
    """True where the thing is a nest whose items are at most so many levels deep."""
    if not isinstance(thing, list):
        return False
    # This also ends the search in a list that has itself within it.
    if room == 0:
        return len(thing) == 0
    return all(is_item_within(item, room) for item in thing)


def is_item_within(thing, room):
    """True where the thing is an item of a nest with so many levels of room."""
    if is_letter(thing):
        return True
    if not isinstance(thing, tuple) or len(thing) != 2:
        return False
    return is_opening(thing[0]) and is_nest_within(thing[1], room - 1)


def refuse_no_nest(thing):
    """NoNest of what is no nest."""
    if not is_nest(thing):
        raise NoNest("this is no nest")


def nest_of(text):
    """The nest of a clean text."""
    if not isinstance(text, str) or not is_clean(text):
        raise NoNest("only a clean text has a nest")
    levels = [[]]
    for sign in text:
        if sign in CLOSING:
            levels.pop()
        else:
            set_down(levels, sign)
    return levels[0]


def set_down(levels, sign):
    """Put a letter or an opening bracket into the innermost nest; the bracket's own becomes the innermost."""
    if sign in OPENING:
        inner = []
        levels[-1].append((sign, inner))
        levels.append(inner)
    else:
        levels[-1].append(sign)


def text_of(nest):
    """The text of a nest."""
    refuse_no_nest(nest)
    return spelled(nest)


def spelled(nest):
    """The text of what is known to be a nest."""
    return "".join(spelled_item(item) for item in nest)


def spelled_item(item):
    """The text of one item of a nest."""
    if isinstance(item, str):
        return item
    bracket, inner = item
    return bracket + spelled(inner) + OTHER[bracket]


def depth_of(nest):
    """How many brackets stand one within another at most."""
    return max([len(path) for path in paths_of(nest)], default=0)


def paths_of(nest):
    """The paths to all tuples, in the order in which these open."""
    refuse_no_nest(nest)
    return [path for path, item in walked(nest, ()) if isinstance(item, tuple)]


def walked(nest, before):
    """All items at any depth in the order in which they stand, each behind its path."""
    steps = []
    for place, item in enumerate(nest):
        path = (*before, place)
        steps.append((path, item))
        if isinstance(item, tuple):
            steps.extend(walked(item[1], path))
    return steps


def at_path(nest, path):
    """The tuple at a path, with a nest of its own."""
    refuse_no_nest(nest)
    if not isinstance(path, tuple) or len(path) == 0:
        raise NoNest("this is no path")
    bracket, inner = "", nest
    for place in path:
        bracket, inner = tuple_at(inner, place)
    return (bracket, copied(inner))


def tuple_at(nest, place):
    """The tuple at a place of a nest; NoNest where none stands there."""
    if not is_whole(place) or place < 0 or place >= len(nest) or isinstance(nest[place], str):
        raise NoNest("this path leads to no tuple")
    return nest[place]


def copied(nest):
    """A nest like this one that has no list in common with it."""
    return [item if isinstance(item, str) else (item[0], copied(item[1])) for item in nest]


def outline(nest):
    """The nest written by lines."""
    refuse_no_nest(nest)
    # The first of a letter is the letter, and of a tuple its bracket.
    return "\n".join(" " * (len(path) - 1) + item[0] for path, item in walked(nest, ()))


def read_outline(text):
    """The nest that has this outline."""
    if not isinstance(text, str):
        raise NoNest("this is no text")
    # A text without signs has no line, but split would tell an empty one.
    if text == "":
        return []
    levels = [[]]
    for line in text.split("\n"):
        sign = line.lstrip(" ")
        depth = len(line) - len(sign)
        if not is_letter(sign) and not is_opening(sign):
            raise NoNest("a line has blanks and then one letter or opening bracket")
        if depth >= len(levels) or depth >= DEEPEST:
            raise NoNest("a line is too deep")
        del levels[depth + 1:]
        set_down(levels, sign)
    return levels[0]
