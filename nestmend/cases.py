"""The cases in which a stretch of a text is mended with the fewest deeds, by some words.

A stretch is a tuple (begin, end): the signs from begin on and below end. Its cases are told apart by what becomes of
the first bracket behind it, and by that one's partner. As in a clean text each bracket has just one partner, no
mending falls under two cases.

A case is a tuple (choices, stretches): just one of the choices is done, each a list of deeds and all of one length;
and besides all these stretches, which are smaller, are mended, each by itself.
"""

from nestmend.deeds import PUT, STRIKE, TURN
from nestmend.signs import BRACKETS, CLOSING, LETTERS, OPENING, OTHER


def cases_of(signs, words, begin, end):
    """All cases of a stretch of one sign or more."""
    cases = passing_cases(signs, words, begin, end)
    if PUT in words:
        cases.extend(opening_cases(signs, begin, end))
    return cases


def passing_cases(signs, words, begin, end):
    """The cases in which the stretch's own first sign stands first, or is struck."""
    rest = (begin + 1, end)
    if signs[begin] in LETTERS:
        return [([[]], [rest])]
    cases = []
    if STRIKE in words:
        cases.append(([[(begin, STRIKE, "")]], [rest]))
    for place in range(begin + 1, end):
        choices = pair_choices(signs, words, begin, place) if signs[place] in BRACKETS else []
        if choices:
            cases.append((choices, [(begin + 1, place), (place + 1, end)]))
    if PUT in words and signs[begin] in OPENING:
        cases.extend(closing_cases(signs, begin, end))
    return cases


def closing_cases(signs, begin, end):
    """The cases in which the stretch's first bracket stays, and its partner is put."""
    # One that is turned has no such partner: it would stay and have one put beside it, with fewer deeds.
    bracket = OTHER[signs[begin]]
    return [
        ([[(place, PUT, bracket)]], [(begin + 1, place), (place, end)]) for place in range(begin + 1, end + 1)
    ]


def opening_cases(signs, begin, end):
    """The cases in which an opening bracket is put first of all."""
    # Its partner is one that stays: with fewer deeds one that is turned would stay and have another one put beside it,
    # and two that are put would be left out.
    return [
        ([[(begin, PUT, OTHER[signs[place]])]], [(begin, place), (place + 1, end)])
        for place in range(begin, end) if signs[place] in CLOSING
    ]


def pair_choices(signs, words, first, second):
    """All choices of as few turns as can be that make partners of the brackets at two places."""
    choices = [turns(signs, first, opening) + turns(signs, second, OTHER[opening]) for opening in OPENING]
    few = min(len(choice) for choice in choices)
    if few > 0 and TURN not in words:
        return []
    return [choice for choice in choices if len(choice) == few]


def turns(signs, place, bracket):
    """The deeds by which the bracket at a place becomes this one."""
    return [] if signs[place] == bracket else [(place, TURN, bracket)]
