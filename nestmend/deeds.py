"""Deeds: brackets put into a text, struck from it, or turned into others."""

from nestmend.errors import NoDeeds
from nestmend.signs import is_bracket, is_clean
from nestmend.whole import is_whole

PUT = "put"
STRIKE = "strike"
TURN = "turn"
# In the order in which deeds of one place rise by them.
WORDS = ("put", "strike", "turn")


def are_deeds(text, thing):
    """True where the thing, whatever it is, is a list of deeds of the text."""
    if not isinstance(thing, list):
        return False
    return all(is_deed(text, one) for one in thing) and are_in_order(thing)


def is_deed(text, thing):
    """True where the thing, whatever it is, is a deed that can be done to the text."""
    if not isinstance(thing, tuple) or len(thing) != 3:
        return False
    place, word, sign = thing
    if not is_whole(place) or place < 0 or place > len(text):
        return False
    if not isinstance(word, str) or not isinstance(sign, str):
        return False
    if word == PUT:
        return is_bracket(sign)
    if place == len(text) or not is_bracket(text[place]):
        return False
    if word == STRIKE:
        return sign == ""
    return word == TURN and is_bracket(sign) and sign != text[place]


def are_in_order(deeds):
    """True where the places rise, and at one place only a deed that puts stands ahead of another."""
    return all(
        one[0] < other[0] or (one[0] == other[0] and one[1] == PUT)
        for one, other in zip(deeds, deeds[1:])
    )


def refuse_no_deeds(text, thing):
    """NoDeeds of what is no list of deeds of the text."""
    if not are_deeds(text, thing):
        raise NoDeeds("these are no deeds of this text")


def done(text, deeds):
    """The text behind the deeds."""
    refuse_no_deeds(text, deeds)
    parts = []
    begin = 0
    for place, word, sign in deeds:
        parts.append(text[begin:place])
        # A struck bracket leaves the sign of its deed too: one of no length.
        parts.append(sign)
        begin = place if word == PUT else place + 1
    parts.append(text[begin:])
    return "".join(parts)


def is_mending(text, thing):
    """True where the thing, whatever it is, is deeds behind which the text is clean."""
    return are_deeds(text, thing) and is_clean(done(text, thing))


def back_from(text, deeds):
    """The deeds of the done text that lead back to this one."""
    refuse_no_deeds(text, deeds)
    told = []
    # How much further on a sign of the text stands behind the deeds that were gone through.
    ahead = 0
    for place, word, sign in deeds:
        if word == PUT:
            told.append((place + ahead, STRIKE, ""))
            ahead += 1
        elif word == STRIKE:
            told.append((place + ahead, PUT, text[place]))
            ahead -= 1
        else:
            told.append((place + ahead, TURN, text[place]))
    return told
