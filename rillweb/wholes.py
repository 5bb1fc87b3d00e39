"""Whole numbers, and the days among them."""

LAST_DAY = 10 ** 15


def is_whole(thing):
    """Whether a thing of any kind is a whole number: an int that is no truth."""
    return isinstance(thing, int) and not isinstance(thing, bool)


def is_between(thing, least, most):
    """Whether a thing of any kind is a whole number from one number to another one."""
    return is_whole(thing) and least <= thing <= most


def is_day(thing):
    """Whether a thing of any kind is a day that may be asked for, or a number of days."""
    return is_between(thing, 0, LAST_DAY)
