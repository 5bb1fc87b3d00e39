"""Webs alike: the first day on which two runs have unlike water, and the rains that part two webs."""

from rillweb.courses import first_unlike
from rillweb.errors import NoDay, NoPlace
from rillweb.shares import Share
from rillweb.twins import Twins
from rillweb.webs import check_depths, gaps_of, is_place
from rillweb.wholes import is_between

MOST_DAYS = 3


def apart_on(one, other, *, pairs):
    """The least day on which the places of some pair have unlike water in two runs, None where none ever have."""
    check_pairs(one.web, other.web, pairs)
    found = [first_unlike(one.water_of(here), other.water_of(there)) for here, there in sorted(set(pairs))]
    days = [day for day in found if day is not None]
    return min(days) if days else None


def apart_within(one, depths, other, others, *, places, pairs, days):
    """A list of the amounts, one a day, by which some pair is parted, as few days as can be; None where none do.

    Each amount falls at a place alone of each of both webs.
    """
    check_depths(one, depths)
    check_depths(other, others)
    if not is_pair(one, other, places):
        raise NoPlace(places)
    check_pairs(one, other, pairs)
    if not is_between(days, 0, MOST_DAYS):
        raise NoDay("a number of days is here a whole number from 0 to 3")
    twins = Twins((one, other), places, pairs)
    mornings = {gaps_of(one, depths) + gaps_of(other, others): []}
    for late in range(days):
        for gaps, amounts in mornings.items():
            if twins.are_apart(gaps):
                return amounts + [Share(1)]
        if late + 1 < days:
            mornings = twins.next_mornings(mornings)
    return None


def check_pairs(one, other, thing):
    """Refuse a thing of any kind that is no list of pairs of a place of the one web and one of the other one."""
    if not isinstance(thing, list) or not all([is_pair(one, other, each) for each in thing]):
        raise NoPlace(thing)


def is_pair(one, other, thing):
    """Whether a thing of any kind is a tuple of a place of the one web and one of the other one."""
    return isinstance(thing, tuple) and len(thing) == 2 and is_place(one, thing[0]) and is_place(other, thing[1])
