"""A desk, which is told rows and answers each by a text."""

from nestmend.bywords import least_by
from nestmend.counted import kth_mending
from nestmend.deeds import WORDS, done
from nestmend.errors import NoRow
from nestmend.keeper import Keeper
from nestmend.nests import nest_of, outline
from nestmend.shares import always_done
from nestmend.signs import MOST_SIGNS, is_sign
from nestmend.stretches import longest_clean
from nestmend.whole import is_written
from nestmend.written import show_deeds

NONE = "none"
OK = "ok"
MOST_FIGURES = 30


def or_none(text):
    """The text, or the word for one of no sign."""
    return NONE if text == "" else text


def tell_take(keeper):
    """The sign that is taken off."""
    return keeper.take()


def tell_show(keeper):
    """The text."""
    return or_none(keeper.text())


def tell_least(keeper):
    """The least number."""
    return str(keeper.least())


def tell_many(keeper):
    """How many least mendings there are."""
    return str(keeper.many())


def tell_clean(keeper):
    """How many clean stretches there are."""
    return str(keeper.clean())


def tell_longest(keeper):
    """The longest clean stretch."""
    stretch = longest_clean(keeper.text())
    return NONE if stretch is None else f"{stretch[0]} {stretch[1]}"


def tell_always(keeper):
    """The deeds of each least mending."""
    return show_deeds(always_done(keeper.text()))


def tell_nest(keeper):
    """The outline of the text's nest."""
    return or_none(outline(nest_of(keeper.text())))


def tell_kth(keeper, k):
    """The least mending with the number k."""
    return show_deeds(kth_mending(keeper.text(), k))


def tell_mended(keeper, k):
    """The text behind the least mending with the number k."""
    return or_none(done(keeper.text(), kth_mending(keeper.text(), k)))


ROWS_ALONE = {
    "take": tell_take,
    "show": tell_show,
    "least": tell_least,
    "many": tell_many,
    "clean": tell_clean,
    "longest": tell_longest,
    "always": tell_always,
    "nest": tell_nest,
}
ROWS_WITH_NUMBER = {
    "kth": tell_kth,
    "mended": tell_mended,
}


def is_kept_text(text):
    """True where a keeper can have this text."""
    return len(text) <= MOST_SIGNS and all(is_sign(sign) for sign in text)


def are_words(words):
    """True where these are one or more of the words, each once and in their order."""
    return len(words) > 0 and words == tuple(word for word in WORDS if word in words)


class Desk:
    """A keeper, and the rows that it is asked by."""

    def __init__(self):
        self.keeper = Keeper()

    def say(self, row):
        """The answer to a row."""
        if not isinstance(row, str):
            raise NoRow("a row is a text")
        word, blank, rest = row.partition(" ")
        if blank == "":
            return self.say_alone(word)
        if word == "text":
            return self.say_text(rest)
        if word == "put":
            return self.say_put(rest)
        if word == "by":
            return self.say_by(rest)
        return self.say_number(word, rest)

    def say_alone(self, word):
        """The answer to a row of one word."""
        if word not in ROWS_ALONE:
            raise NoRow("no row has this word alone")
        answer = ROWS_ALONE[word]
        return answer(self.keeper)

    def say_text(self, text):
        """The text becomes the keeper's."""
        if not is_kept_text(text):
            raise NoRow("this is no text to be kept")
        keeper = Keeper()
        for sign in text:
            keeper.put(sign)
        self.keeper = keeper
        return OK

    def say_put(self, sign):
        """The sign is put behind the keeper's text."""
        if not is_sign(sign):
            raise NoRow("this is no sign")
        self.keeper.put(sign)
        return OK

    def say_by(self, rest):
        """The least number by words."""
        words = tuple(rest.split(" "))
        if not are_words(words):
            raise NoRow("these are no words of deeds in their order")
        few = least_by(self.keeper.text(), words)
        return NONE if few is None else str(few)

    def say_number(self, word, figures):
        """The answer to a row of a word and a number."""
        if word not in ROWS_WITH_NUMBER or not is_written(figures, MOST_FIGURES):
            raise NoRow("no row has this word and what stands behind it")
        answer = ROWS_WITH_NUMBER[word]
        return answer(self.keeper, int(figures))
