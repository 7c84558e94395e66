"""All least mendings of a text: how many there are, and each by its number."""

from nestmend.deeds import WORDS, is_mending
from nestmend.errors import NoDeeds
from nestmend.tallies import columns_of
from nestmend.ways import Ways


def how_many(text):
    """How many least mendings the text has."""
    return columns_of(text, WORDS)[-1][0][1]


def kth_mending(text, k):
    """The least mending with the number k."""
    return Ways(text, WORDS).kth(k)


def number_of(text, deeds):
    """The number of a least mending."""
    ways = Ways(text, WORDS)
    if not is_mending(text, deeds) or len(deeds) != ways.left(0, "")[0]:
        raise NoDeeds("this is no least mending of this text")
    number, place, wants = 0, 0, ""
    waiting = deeds[::-1]
    while waiting:
        deed = waiting.pop() if waiting[-1][0] == place else None
        ahead, place, wants = step_by_deed(ways.steps(place, wants), deed)
        number += ahead
    return number


def step_by_deed(steps, deed):
    """How many ways stand ahead of those that take the step with this deed, and the step's place and wants."""
    at = ahead = 0
    while steps[at][1] != deed:
        ahead += steps[at][0]
        at += 1
    return (ahead, steps[at][2], steps[at][3])
