"""Whole numbers, and the days among them."""

LAST_DAY = 10 ** 15


def is_whole(thing):
    """Whether a thing of any kind is a whole number: an int that is no truth."""
    return isinstance(thing, int) and not isinstance(thing, bool)


def is_day(thing):
    """Whether a thing of any kind is a day that may be asked for, or a number of days."""
    return is_whole(thing) and 0 <= thing <= LAST_DAY
