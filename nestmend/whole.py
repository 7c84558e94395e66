"""What a whole number is."""


def is_whole(thing):
    """True where the thing, whatever it is, is an int that is no truth."""
    return isinstance(thing, int) and not isinstance(thing, bool)
