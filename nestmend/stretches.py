"""Clean stretches of a text: tuples (begin, end) of the signs from begin on and below end, where these are clean."""

from nestmend.errors import NoNumber
from nestmend.signs import CLOSING, LETTERS, is_clean, partners
from nestmend.whole import is_whole


def is_clean_stretch(text, begin, end):
    """True where the stretch is clean."""
    return 0 <= begin < end <= len(text) and is_clean(text[begin:end])


def item_begins(text):
    """For each sign the place where the letter, or the bracket with its partner, begins that ends with it, or None."""
    told = []
    for place, partner in enumerate(partners(text)):
        if text[place] in LETTERS:
            told.append(place)
        else:
            told.append(partner if text[place] in CLOSING else None)
    return told


def many_clean(text):
    """How many clean stretches the text has."""
    # A clean stretch is its last item alone, or a clean one that ends where this begins ahead of it.
    ending = [0]
    for begin in item_begins(text):
        ending.append(0 if begin is None else ending[begin] + 1)
    return sum(ending)


def longest_clean(text):
    """The longest clean stretch, of several the first, or None."""
    longest = None
    # For each end where the longest clean stretch begins that ends there; the end itself where none does.
    furthest = [0]
    for place, begin in enumerate(item_begins(text)):
        end = place + 1
        furthest.append(end if begin is None else furthest[begin])
        size = end - furthest[end]
        if size > 0 and (longest is None or size > longest[1] - longest[0]):
            longest = (furthest[end], end)
    return longest


def clean_ends(text, end):
    """The clean stretches that end at a place, rising."""
    if not is_whole(end) or end < 0 or end > len(text):
        raise NoNumber("this is no place of this text")
    begins = item_begins(text)
    told = []
    place = end
    while place > 0 and begins[place - 1] is not None:
        place = begins[place - 1]
        told.append((place, end))
    return told[::-1]
