"""How few deeds mend each stretch of a text by some words, and in how many ways.

A tally is a tuple (few, ways): with how few deeds something can be done, and in how many ways with so few. Where it
cannot be done at all there are 0 ways.

Tallies of stretches stand in columns, one for each end: at end and begin that of the signs from begin on and below
end. So a text that grows or shrinks at its end has one column more or less, and the others stay.
"""

from nestmend.cases import cases_of

NO_DEED = (0, 1)
NO_WAY = (0, 0)


def fewest(tallies):
    """The tally of what can be done in all these ways."""
    few, ways = NO_WAY
    for tally in tallies:
        if tally[1] > 0 and (ways == 0 or tally[0] < few):
            few, ways = tally
        elif tally[0] == few:
            ways += tally[1]
    return (few, ways)


def joined(tallies):
    """The tally of doing all these, each in any of its ways."""
    few, ways = 0, 1
    for tally in tallies:
        few += tally[0]
        ways *= tally[1]
    return (few, ways)


def case_tally(columns, case):
    """The tally of one case of a stretch."""
    choices, stretches = case
    own = (len(choices[0]), len(choices))
    return joined([own] + [columns[end][begin] for begin, end in stretches])


def add_column(columns, signs, words):
    """Add the column of the signs' end to those of all ends ahead of it."""
    end = len(signs)
    column = [NO_DEED] * (end + 1)
    columns.append(column)
    for begin in reversed(range(end)):
        # The cases ask for smaller stretches alone: of this column for those that begin further on.
        column[begin] = fewest([case_tally(columns, case) for case in cases_of(signs, words, begin, end)])


def columns_of(signs, words):
    """The columns of all ends."""
    columns = []
    for end in range(len(signs) + 1):
        add_column(columns, signs[:end], words)
    return columns
