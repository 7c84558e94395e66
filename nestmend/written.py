"""Deeds and shares written as texts, and deeds read back."""

from nestmend.deeds import PUT, STRIKE, WORDS, are_in_order
from nestmend.errors import NoWriting
from nestmend.signs import MOST_SIGNS, is_bracket
from nestmend.whole import is_written

MARKS = {"put": "+", "strike": "-", "turn": "="}
NONE = "none"
# No place in a text of forty signs has more.
PLACE_FIGURES = 2


def show_deeds(deeds):
    """The writing of deeds."""
    if len(deeds) == 0:
        return NONE
    return ", ".join(show_deed(deed) for deed in deeds)


def show_deed(deed):
    """The writing of one deed."""
    place, word, sign = deed
    return f"{place}{MARKS[word]}{sign}"


def show_shares(shares):
    """The writing of shares, by lines."""
    return "\n".join(f"{show_deed(deed)} {often}" for deed, often in shares)


def read_deeds(text):
    """The deeds that are written so."""
    if not isinstance(text, str):
        raise NoWriting("this is no text")
    if text == NONE:
        return []
    deeds = [read_deed(part) for part in text.split(", ")]
    if not are_in_order(deeds):
        raise NoWriting("these deeds cannot stand in this order")
    return deeds


def read_deed(text):
    """The deed that is written so."""
    for word in WORDS:
        figures, mark, sign = text.partition(MARKS[word])
        # The figures are looked at ahead of being read, as Python reads other writings of numbers too.
        if mark != "" and is_written(figures, PLACE_FIGURES) and can_be_done(int(figures), word, sign):
            return (int(figures), word, sign)
    raise NoWriting("this is no writing of a deed")


def can_be_done(place, word, sign):
    """True where some text has room for this deed at its place."""
    if word == PUT:
        return place <= MOST_SIGNS and is_bracket(sign)
    if place >= MOST_SIGNS:
        return False
    return sign == "" if word == STRIKE else is_bracket(sign)
