"""The least number of deeds that mend a text, and the table that shows it to a small checker."""

from nestmend.counted import kth_mending
from nestmend.deeds import is_mending
from nestmend.signs import BRACKETS, CLOSING, LETTERS, OPENING, OTHER
from nestmend.whole import is_whole


def least_number(text):
    """With how few deeds the text can be mended."""
    return least_table(text)[0][-1]


def least_table(text):
    """A list of lists: at i and j less i the least number for the signs from i on and below j."""
    size = len(text)
    table = [[0] for begin in range(size + 1)]
    for begin in reversed(range(size)):
        for end in range(begin + 1, size + 1):
            # By striking and turning alone a text is mended with as few deeds as by all words, so no sum is missed.
            table[begin].append(min(bounds(text, table, begin, end)))
    return table


def bounds(text, table, begin, end):
    """The sums of a table's entries that the entry of a stretch of one sign or more must not be greater than."""
    first = text[begin]
    rest = table[begin + 1][end - begin - 1]
    if first in LETTERS:
        return [rest]
    sums = [rest + 1]
    for place in range(begin + 1, end):
        if text[place] in BRACKETS:
            within, behind = table[begin + 1][place - begin - 1], table[place + 1][end - place - 1]
            sums.append(within + behind + turns_between(first, text[place]))
    return sums


def turns_between(first, second):
    """How many of two brackets must be turned at least to be an opening and a closing one of one kind."""
    if first in CLOSING and second in OPENING:
        return 2
    return 0 if second == OTHER[first] else 1


def is_low(text, table):
    """True where the table, whatever it is, is one by which no stretch can be mended with fewer deeds than told."""
    size = len(text)
    return is_table(table, size) and all(
        table[begin][end - begin] <= min(bounds(text, table, begin, end))
        for begin in range(size) for end in range(begin + 1, size + 1)
    )


def is_table(thing, size):
    """True where the thing, whatever it is, has the form of a table of a text with so many signs."""
    if not isinstance(thing, list) or len(thing) != size + 1:
        return False
    return all(is_table_row(row, size + 1 - begin) for begin, row in enumerate(thing))


def is_table_row(thing, many):
    """True where the thing, whatever it is, is a list of so many whole numbers, of no signs 0 ahead."""
    if not isinstance(thing, list) or len(thing) != many:
        return False
    return all(is_whole(entry) for entry in thing) and thing[0] == 0


def is_paper(text, deeds, table):
    """True where the deeds, whatever they are, are a least mending, and the table, whatever it is, shows it."""
    return is_mending(text, deeds) and is_low(text, table) and len(deeds) == table[0][-1]


def paper_of(text):
    """The first least mending, and the table that shows it to be one."""
    return (kth_mending(text, 0), least_table(text))
