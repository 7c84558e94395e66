"""How often each deed stands in the least mendings of a text, and what is the same in all of them."""

from nestmend.cases import cases_of
from nestmend.counted import how_many
from nestmend.deeds import PUT, WORDS
from nestmend.signs import BRACKETS
from nestmend.tallies import case_tally, columns_of


def shares_of(text):
    """A tuple (deed, how often) for each deed that stands in some least mending, rising."""
    often = {}
    columns = columns_of(text, WORDS)
    # For each stretch in how many ways all else is done where it is mended by itself.
    around = {(0, len(text)): 1}
    for stretch in stretches_by_size(len(text)):
        if stretch in around:
            share_out(text, columns, stretch, around, often)
    return [(deed, often[deed]) for deed in sorted(often)]


def stretches_by_size(size):
    """All stretches of one sign or more of a text with so many signs, the greatest first."""
    return [
        (begin, begin + length) for length in reversed(range(1, size + 1)) for begin in range(size - length + 1)
    ]


def share_out(text, columns, stretch, around, often):
    """Go on from a stretch to the deeds of its cases and to the smaller stretches that these ask for."""
    begin, end = stretch
    few = columns[end][begin][0]
    for case in cases_of(text, WORDS, begin, end):
        case_few, ways = case_tally(columns, case)
        if case_few == few:
            share_case(columns, case, ways * around[stretch], around, often)


def share_case(columns, case, times, around, often):
    """Share out one case that stands in so many least mendings."""
    choices, stretches = case
    for choice in choices:
        for deed in choice:
            often[deed] = often.get(deed, 0) + times // len(choices)
    for begin, end in stretches:
        around[(begin, end)] = around.get((begin, end), 0) + times // columns[end][begin][1]


def always_done(text):
    """The deeds that stand in each least mending, rising."""
    many = how_many(text)
    # No least mending has a deed twice: of two same brackets put at one place both would be left out, and the nearer
    # one of their partners turned into the other's. So a deed's share is the number of least mendings it stands in.
    return [deed for deed, often in shares_of(text) if often == many]


def always_kept(text):
    """The places of brackets that no least mending strikes or turns, rising."""
    touched = set()
    for deed, often in shares_of(text):
        if deed[1] != PUT:
            touched.add(deed[0])
    return [place for place, sign in enumerate(text) if sign in BRACKETS and place not in touched]
