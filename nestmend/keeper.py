"""A text kept while it grows and shrinks at its end, with all that is told of it."""

from nestmend.deeds import WORDS
from nestmend.errors import NoSign
from nestmend.signs import MOST_SIGNS, is_sign
from nestmend.stretches import many_clean
from nestmend.tallies import add_column, columns_of


class Keeper:
    """A text, at first of no sign, and its table of tallies, a column for each end."""

    def __init__(self):
        self.signs = ""
        self.columns = columns_of("", WORDS)
        # How many entries of the table the last deed wrote.
        self.entries = 1

    def put(self, sign):
        """Put a sign behind the text."""
        if not is_sign(sign):
            raise NoSign("this is no sign")
        if len(self.signs) >= MOST_SIGNS:
            raise NoSign("there is no room for one more sign")
        self.signs += sign
        add_column(self.columns, self.signs, WORDS)
        self.entries = len(self.columns[-1])

    def take(self):
        """Take off the last sign, and tell it."""
        if self.signs == "":
            raise NoSign("there is no sign to take")
        sign = self.signs[-1]
        self.signs = self.signs[:-1]
        self.columns.pop()
        self.entries = 0
        return sign

    def text(self):
        """The text."""
        return self.signs

    def least(self):
        """The least number of deeds that mend the text."""
        return self.columns[-1][0][0]

    def many(self):
        """How many least mendings the text has."""
        return self.columns[-1][0][1]

    def column(self):
        """The least numbers of the stretches from each place to the end."""
        return [tally[0] for tally in self.columns[-1]]

    def clean(self):
        """How many clean stretches the text has."""
        return many_clean(self.signs)

    def wrote(self):
        """How many entries of the table the last deed wrote."""
        return self.entries
