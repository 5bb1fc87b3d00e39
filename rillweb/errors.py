"""The refusals of the program, each straight under RillError."""


class RillError(ValueError):
    """Any refusal."""


class NoShare(RillError):
    """What is handed in makes no share."""


class NoCourse(RillError):
    """What is handed in makes no course."""


class NoDay(RillError):
    """What is handed in is no day, or no number of days."""


class TooLong(RillError):
    """What is to be told takes too many stretches, or words that are too long."""

    def __init__(self, place):
        super().__init__("this takes too many stretches, or words that are too long")
        self.place = place


class NoWeb(RillError):
    """What is handed in makes no web; part is the name of what is amiss."""

    def __init__(self, part):
        super().__init__("this makes no web")
        self.part = part


class NoDepths(RillError):
    """What is handed in is no depths."""


class NoRain(RillError):
    """What is handed in is no rain, or no rains."""


class NoDigs(RillError):
    """What is handed in is no digs, or no number of them."""


class NoTurned(RillError):
    """What is handed in is no turned ties."""


class NoPlace(RillError):
    """What is handed in is no place, or none of the kind that is wanted."""

    def __init__(self, place):
        super().__init__("this is no place, or none of the kind that is wanted")
        self.place = place


class NoBed(RillError):
    """What is handed in is no bed, or none of the kind that is wanted."""

    def __init__(self, bed):
        super().__init__("this is no bed, or none of the kind that is wanted")
        self.bed = bed


class NoTie(RillError):
    """Where a tie is to be turned, there is none."""
