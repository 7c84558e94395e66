"""The ways in which a text is mended with the fewest deeds by some words, in the order of their lists of deeds.

Deeds of a text are taken here as steps from its begin to its end: a step puts a bracket, or passes the next sign,
which stays, is struck or is turned. Each list of deeds is just one row of steps.
"""

from nestmend.deeds import PUT, STRIKE, TURN
from nestmend.errors import NoNumber
from nestmend.signs import BRACKETS, LETTERS, OPENING, OTHER
from nestmend.tallies import NO_DEED, NO_WAY, columns_of, fewest, joined
from nestmend.whole import is_whole

ONE_DEED = (1, 1)


def wanted_behind(wants, bracket):
    """The closing brackets that are wanted behind one more bracket, or None where it cannot stand there."""
    if bracket in OPENING:
        return wants + OTHER[bracket]
    return wants[:-1] if wants.endswith(bracket) else None


def steps_from(signs, words, place, wants):
    """All steps (deed or None, place, wants) from a place, in the order of the lists of deeds that they begin."""
    steps = []
    if PUT in words:
        for bracket in BRACKETS:
            steps.append(((place, PUT, bracket), place, wanted_behind(wants, bracket)))
    if place < len(signs):
        steps.extend(passing_steps(signs[place], words, place, wants))
    return [step for step in steps if step[2] is not None]


def passing_steps(sign, words, place, wants):
    """The steps that pass the sign at a place; where it cannot become this bracket, None stands for the wants."""
    beyond = place + 1
    if sign in LETTERS:
        return [(None, beyond, wants)]
    steps = []
    if STRIKE in words:
        steps.append(((place, STRIKE, ""), beyond, wants))
    if TURN in words:
        for bracket in BRACKETS:
            if bracket != sign:
                steps.append(((place, TURN, bracket), beyond, wanted_behind(wants, bracket)))
    # Where the bracket stays the next deed has a higher place than all these, so this step is the last.
    steps.append((None, beyond, wanted_behind(wants, sign)))
    return steps


def step_by_number(steps, number):
    """The step that the way with this number takes, behind its number among the ways that take this step."""
    at = 0
    while number >= steps[at][0]:
        number -= steps[at][0]
        at += 1
    return (number, steps[at][1], steps[at][2], steps[at][3])


class Ways:
    """The ways of a text with the fewest deeds by some words, step by step.

    Wants are a text of closing brackets: those that the brackets that are open want, of the innermost the last.
    """

    def __init__(self, signs, words):
        self.signs = signs
        self.words = words
        self.columns = columns_of(signs, words)
        self.known = {}

    def left(self, place, wants):
        """The tally of all that is left to do from a place on, where these are wanted."""
        if wants == "":
            return self.columns[-1][place]
        if (place, wants) not in self.known:
            self.known[(place, wants)] = fewest(self.closings(place, wants))
        return self.known[(place, wants)]

    def closings(self, place, wants):
        """The tallies of what is left, one for each step that may close the innermost open bracket."""
        wanted, others = wants[-1], wants[:-1]
        told = []
        for end in range(place, len(self.signs) + 1):
            within = self.columns[end][place]
            if PUT in self.words:
                told.append(joined([within, ONE_DEED, self.left(end, others)]))
            if end < len(self.signs):
                told.append(joined([within, self.become(end, wanted), self.left(end + 1, others)]))
        return told

    def become(self, place, bracket):
        """The tally of the sign at a place that has to become this bracket."""
        if self.signs[place] == bracket:
            return NO_DEED
        return ONE_DEED if TURN in self.words and self.signs[place] in BRACKETS else NO_WAY

    def steps(self, place, wants):
        """The steps with which the fewest deeds can be met, rising: tuples (ways, deed or None, place, wants)."""
        few = self.left(place, wants)[0]
        told = []
        for deed, beyond, still in steps_from(self.signs, self.words, place, wants):
            rest, ways = self.left(beyond, still)
            if ways > 0 and few == rest + (0 if deed is None else 1):
                told.append((ways, deed, beyond, still))
        return told

    def kth(self, k):
        """The deeds of the way with the number k; NoNumber of what is no number of one."""
        if not is_whole(k) or k < 0 or k >= self.left(0, "")[1]:
            raise NoNumber("no least mending has this number")
        deeds = []
        number, place, wants = k, 0, ""
        # Where no deed is left to do there is just one way, and the rest of the text stays.
        while self.left(place, wants)[0] > 0:
            number, deed, place, wants = step_by_number(self.steps(place, wants), number)
            if deed is not None:
                deeds.append(deed)
        return deeds
