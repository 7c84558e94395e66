"""The least mendings by some words: those whose deeds have these words alone."""

from nestmend.tallies import columns_of
from nestmend.ways import Ways


def least_by(text, words):
    """With how few deeds of these words the text can be mended, or None where it cannot."""
    few, ways = columns_of(text, words)[-1][0]
    return None if ways == 0 else few


def many_by(text, words):
    """How many mendings by these words have as few deeds as any of them."""
    return columns_of(text, words)[-1][0][1]


def kth_by(text, words, k):
    """The one with the number k of the mendings by these words that have as few deeds as any of them."""
    return Ways(text, words).kth(k)
