"""Shares: fractions of whole numbers of any size."""

from math import gcd, lcm

from rillweb.errors import NoShare
from rillweb.wholes import is_whole


class Share:
    """A fraction in lowest terms, its bottom above 0."""

    def __init__(self, top, bottom=1):
        if not is_whole(top) or not is_whole(bottom) or bottom == 0:
            raise NoShare("a share is made of two whole numbers, the bottom not 0")
        common = gcd(top, bottom)
        if bottom < 0:
            common = -common
        self.top = top // common
        self.bottom = bottom // common

    def __eq__(self, other):
        return isinstance(other, Share) and self.top == other.top and self.bottom == other.bottom


def plus(one, other):
    """The sum of two shares."""
    return Share(one.top * other.bottom + other.top * one.bottom, one.bottom * other.bottom)


def minus(one, other):
    """The one share less the other one."""
    return Share(one.top * other.bottom - other.top * one.bottom, one.bottom * other.bottom)


def times(one, other):
    """The product of two shares."""
    return Share(one.top * other.top, one.bottom * other.bottom)


def over(one, other):
    """The one share divided by the other one; by the share 0 this has the bottom 0, so it is refused."""
    return Share(one.top * other.bottom, one.bottom * other.top)


def less(one, other):
    """Whether the one share is less than the other one."""
    return one.top * other.bottom < other.top * one.bottom


def total(shares):
    """The sum of a list or tuple of shares."""
    if len(shares) == 1:
        return shares[0]
    bottom = 1
    for share in shares:
        bottom = lcm(bottom, share.bottom)
    return Share(sum([share.top * (bottom // share.bottom) for share in shares]), bottom)
