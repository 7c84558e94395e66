"""Letters and brackets, clean texts, partners, and texts turned about or in other kinds."""

LETTERS = "abcdefghijklmnopqrstuvwxyz"
# An order of kinds names them one by one as they stand here.
OPENING = "(<[{"
CLOSING = ")>]}"
# Deeds rise by their signs as these do.
BRACKETS = "()<>[]{}"
# How many signs a text has at most that is kept, or that written deeds are of.
MOST_SIGNS = 40
OTHER = {
    "(": ")", "<": ">", "[": "]", "{": "}",
    ")": "(", ">": "<", "]": "[", "}": "{",
}


def is_letter(thing):
    """True where the thing, whatever it is, is one small letter."""
    return is_one_of(thing, LETTERS)


def is_sign(thing):
    """True where the thing, whatever it is, is one letter or one bracket."""
    return is_letter(thing) or is_bracket(thing)


def is_opening(thing):
    """True where the thing, whatever it is, is one opening bracket."""
    return is_one_of(thing, OPENING)


def is_bracket(thing):
    """True where the thing, whatever it is, is one bracket."""
    return is_one_of(thing, BRACKETS)


def is_one_of(thing, signs):
    """True where the thing, whatever it is, is just one of these signs."""
    # The length is asked, as several signs side by side, or none, are in a text too.
    return isinstance(thing, str) and len(thing) == 1 and thing in signs


def partners(text):
    """For each sign the place of its partner, or None."""
    told = [None] * len(text)
    waiting = []
    for place, sign in enumerate(text):
        if sign in OPENING:
            waiting.append(place)
        elif sign in CLOSING:
            if waiting and text[waiting[-1]] == OTHER[sign]:
                begin = waiting.pop()
                told[begin] = place
                told[place] = begin
            else:
                # Nothing clean has a bracket without a partner in it, so none may wait beyond this one.
                waiting.clear()
    return told


def is_clean(text):
    """True where each bracket of the text has its partner."""
    return all(sign in LETTERS or partner is not None for sign, partner in zip(text, partners(text)))


def turned_about(text):
    """The signs from behind, each bracket the other one of its kind."""
    return "".join(OTHER.get(sign, sign) for sign in text[::-1])


def in_kinds(text, order):
    """The text with each bracket of the kind that the order has for its own."""
    becomes = {}
    for old, new in zip(OPENING, order):
        becomes[old] = new
        becomes[OTHER[old]] = OTHER[new]
    return "".join(becomes.get(sign, sign) for sign in text)
