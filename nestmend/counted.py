"""All least mendings of a text: how many there are, and each by its number."""

from nestmend.deeds import is_mending
from nestmend.errors import NoDeeds, NoNumber
from nestmend.ways import Ways, stretch_tallies
from nestmend.whole import is_whole


def how_many(text):
    """How many least mendings the text has."""
    return stretch_tallies(text)[0][-1][1]


def kth_mending(text, k):
    """The least mending with the number k."""
    ways = Ways(text)
    if not is_whole(k) or k < 0 or k >= ways.left(0, "")[1]:
        raise NoNumber("no least mending has this number")
    deeds = []
    number, place, wants = k, 0, ""
    # Where no deed is left to do there is just one way, and the rest of the text stays.
    while ways.left(place, wants)[0] > 0:
        number, deed, place, wants = step_by_number(ways.steps(place, wants), number)
        if deed is not None:
            deeds.append(deed)
    return deeds


def step_by_number(steps, number):
    """The step that the way with this number takes, behind its number among the ways that take this step."""
    at = 0
    while number >= steps[at][0]:
        number -= steps[at][0]
        at += 1
    return (number, steps[at][1], steps[at][2], steps[at][3])


def number_of(text, deeds):
    """The number of a least mending."""
    ways = Ways(text)
    if not is_mending(text, deeds) or len(deeds) != ways.left(0, "")[0]:
        raise NoDeeds("this is no least mending of this text")
    number, place, wants = 0, 0, ""
    waiting = deeds[::-1]
    while waiting:
        deed = waiting.pop() if waiting[-1][0] == place else None
        ahead, place, wants = step_by_deed(ways.steps(place, wants), deed)
        number += ahead
    return number


def step_by_deed(steps, deed):
    """How many ways stand ahead of those that take the step with this deed, and the step's place and wants."""
    at = ahead = 0
    while steps[at][1] != deed:
        ahead += steps[at][0]
        at += 1
    return (ahead, steps[at][2], steps[at][3])
