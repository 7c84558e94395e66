"""The ways in which a text is mended with the fewest deeds.

Deeds of a text are taken here as steps from its begin to its end: a step puts a bracket, or passes the next sign,
which stays, is struck or is turned. Each list of deeds is just one row of steps, and in the clean text that they
tell each bracket has just one partner; so no way is counted twice.

A tally is a tuple (few, ways): with how few deeds something can be done, and in how many ways with so few.
"""

from nestmend.deeds import PUT, STRIKE, TURN
from nestmend.signs import BRACKETS, CLOSING, LETTERS, OPENING, OTHER

NO_DEED = (0, 1)
ONE_DEED = (1, 1)


def fewest(tallies):
    """The tally of what can be done in all these ways."""
    few = min(tally[0] for tally in tallies)
    return (few, sum(tally[1] for tally in tallies if tally[0] == few))


def joined(tallies):
    """The tally of doing all these, each in any of its ways."""
    few, ways = 0, 1
    for tally in tallies:
        few += tally[0]
        ways *= tally[1]
    return (few, ways)


def passed(sign, bracket):
    """The tally of a bracket of the text that has to become this one."""
    return NO_DEED if sign == bracket else ONE_DEED


def paired(first, second):
    """The tally of two brackets of the text that have to become partners."""
    return fewest([
        joined([passed(first, opening), passed(second, OTHER[opening])]) for opening in OPENING
    ])


def stretch_tallies(signs):
    """A list of lists: at i and j less i the tally of mending the signs from i on and below j."""
    size = len(signs)
    table = [[NO_DEED] for begin in range(size + 1)]
    for begin in reversed(range(size)):
        for end in range(begin + 1, size + 1):
            # These ask only for stretches that begin further on, or end earlier, and those are there by now.
            cases = passing_cases(signs, table, begin, end) + putting_cases(signs, table, begin, end)
            table[begin].append(fewest(cases))
    return table


def tally_at(table, begin, end):
    """The tally of one stretch."""
    return table[begin][end - begin]


def passing_cases(signs, table, begin, end):
    """The tallies of mending a stretch where the first step passes its first sign."""
    first = signs[begin]
    rest = tally_at(table, begin + 1, end)
    if first in LETTERS:
        return [rest]
    cases = [joined([ONE_DEED, rest])]
    for place in range(begin + 1, end):
        if signs[place] in BRACKETS:
            within = tally_at(table, begin + 1, place)
            cases.append(joined([paired(first, signs[place]), within, tally_at(table, place + 1, end)]))
    # One that is turned has no partner that is put: it would be struck with fewer deeds.
    if first in OPENING:
        for place in range(begin + 1, end + 1):
            within = tally_at(table, begin + 1, place)
            cases.append(joined([ONE_DEED, within, tally_at(table, place, end)]))
    return cases


def putting_cases(signs, table, begin, end):
    """The tallies of mending a stretch where the first step puts an opening bracket."""
    # Its partner is one that stays: with fewer deeds one that is turned would be struck, and two that are put left out.
    return [
        joined([ONE_DEED, tally_at(table, begin, place), tally_at(table, place + 1, end)])
        for place in range(begin, end) if signs[place] in CLOSING
    ]


def wanted_behind(wants, bracket):
    """The closing brackets that are wanted behind one more bracket, or None where it cannot stand there."""
    if bracket in OPENING:
        return wants + OTHER[bracket]
    return wants[:-1] if wants.endswith(bracket) else None


def steps_from(signs, place, wants):
    """All steps (deed or None, place, wants) from a place, in the order of the lists of deeds that they begin."""
    steps = [((place, PUT, bracket), place, wanted_behind(wants, bracket)) for bracket in BRACKETS]
    if place < len(signs):
        steps.extend(passing_steps(signs[place], place, wants))
    return [step for step in steps if step[2] is not None]


def passing_steps(sign, place, wants):
    """The steps that pass the sign at a place; where it cannot become this bracket, None stands for the wants."""
    beyond = place + 1
    if sign in LETTERS:
        return [(None, beyond, wants)]
    steps = [((place, STRIKE, ""), beyond, wants)]
    for bracket in BRACKETS:
        if bracket != sign:
            steps.append(((place, TURN, bracket), beyond, wanted_behind(wants, bracket)))
    # Where the bracket stays the next deed has a higher place than all these, so this step is the last.
    steps.append((None, beyond, wanted_behind(wants, sign)))
    return steps


class Ways:
    """The ways of a text with the fewest deeds, step by step.

    Wants are a text of closing brackets: those that the brackets that are open want, of the innermost the last.
    """

    def __init__(self, signs):
        self.signs = signs
        self.table = stretch_tallies(signs)
        self.known = {}

    def left(self, place, wants):
        """The tally of all that is left to do from a place on, where these are wanted."""
        if wants == "":
            return tally_at(self.table, place, len(self.signs))
        if (place, wants) not in self.known:
            self.known[(place, wants)] = fewest(self.closing_cases(place, wants))
        return self.known[(place, wants)]

    def closing_cases(self, place, wants):
        """The tallies of what is left, one for each step that may close the innermost open bracket."""
        wanted, others = wants[-1], wants[:-1]
        cases = []
        for end in range(place, len(self.signs) + 1):
            within = tally_at(self.table, place, end)
            cases.append(joined([within, ONE_DEED, self.left(end, others)]))
            if end < len(self.signs) and self.signs[end] in BRACKETS:
                cases.append(joined([within, passed(self.signs[end], wanted), self.left(end + 1, others)]))
        return cases

    def steps(self, place, wants):
        """The steps with which the fewest deeds can be met, rising: tuples (ways, deed or None, place, wants)."""
        few = self.left(place, wants)[0]
        told = []
        for deed, beyond, still in steps_from(self.signs, place, wants):
            rest, ways = self.left(beyond, still)
            if few == rest + (0 if deed is None else 1):
                told.append((ways, deed, beyond, still))
        return told
