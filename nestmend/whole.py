"""What a whole number is, and how one is written."""

FIGURES = "0123456789"


def is_whole(thing):
    """True where the thing, whatever it is, is an int that is no truth."""
    return isinstance(thing, int) and not isinstance(thing, bool)


def is_written(text, most):
    """True where the text is a number by at most so many figures, without noughts ahead but 0 itself."""
    if len(text) == 0 or len(text) > most or any(sign not in FIGURES for sign in text):
        return False
    return text == "0" or text[0] != "0"
