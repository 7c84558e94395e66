"""The refusals of Nestmend."""


class MendError(ValueError):
    """Any refusal."""


class NoNest(MendError):
    """What was handed in is no nest, has none, or is no path or outline of one."""


class NoDeeds(MendError):
    """What was handed in is no list of deeds such as was asked for."""


class NoNumber(MendError):
    """What was handed in is no number such as was asked for."""


class NoSign(MendError):
    """There is no such sign, no room for one, or none to take."""


class NoWriting(MendError):
    """What was handed in is no writing of deeds."""


class NoRow(MendError):
    """What was handed in is no row that a desk knows."""
