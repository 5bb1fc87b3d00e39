"""Stretches of amounts, as they fall at one place alone.

A stretch is a tuple (low, has_low, high, has_high): all shares from low to
high, low itself where has_low is True, high itself where has_high is True;
high is None where there is no end. A stretch without any share is told as None.

Of an amount that falls at one place alone, and nothing elsewhere, each bed
bears the amount times a share, its factor, as long as the same beds are first.
"""

from rillweb.shares import Share, less, over, plus, times
from rillweb.webs import flow_of, move_of


def all_amounts():
    """The stretch of all amounts from 0 on."""
    return (Share(0), True, None, False)


def stretch_or_none(low, has_low, high, has_high):
    """A stretch, None where no share is in it."""
    if high is not None and (less(high, low) or high == low and not (has_low and has_high)):
        return None
    return (low, has_low, high, has_high)


def part_above(stretch, share, has_share):
    """The part of a stretch that is above a share, with this share itself where has_share is True, or None."""
    low, has_low, high, has_high = stretch
    if less(low, share):
        return stretch_or_none(share, has_share, high, has_high)
    return stretch_or_none(low, has_low and (has_share or low != share), high, has_high)


def part_below(stretch, share, has_share):
    """The part of a stretch that is below a share, with this share itself where has_share is True, or None."""
    low, has_low, high, has_high = stretch
    if high is None or less(share, high):
        return stretch_or_none(low, has_low, share, has_share)
    return stretch_or_none(low, has_low, high, has_high and (has_share or high != share))


def part_moving(stretch, bed, factor, move):
    """The part of a stretch by which a bed that bears a factor of the amount moves by a number, or None."""
    _, _, low, high = bed
    if factor.top == 0:
        return stretch if move_of(bed, factor) == move else None
    if move == 1:
        return part_above(stretch, over(high, factor), True)
    if move == -1:
        return part_below(stretch, over(low, factor), True)
    part = part_above(stretch, over(low, factor), False) if move == 0 else None
    return None if part is None else part_below(part, over(high, factor), False)


def parts_by_moves(beds, factors):
    """All amounts parted by how some beds move: tuples (stretch, tuple of the steps of the beds)."""
    parts = [(all_amounts(), ())]
    for bed, factor in zip(beds, factors):
        finer = []
        for stretch, moves in parts:
            for move in (-1, 0, 1):
                part = part_moving(stretch, bed, factor, move)
                if part is not None:
                    finer.append((part, moves + (move,)))
        parts = finer
    return parts


def amount_in(stretch):
    """Some amount of a stretch that tells how beds move.

    Where it is without end, all beds that bear some rise, and they do so from its low on, which is in it.
    """
    low, has_low, high, has_high = stretch
    if has_low:
        return low
    return high if has_high else times(Share(1, 2), plus(low, high))


def flow_from(web, leads, place):
    """What each place has, and each bed bears, of the amount 1 that falls at a place alone, by which beds are first."""
    rain = tuple([Share(1) if each == place else Share(0) for each in range(web.many)])
    return flow_of(web, leads, rain)
