"""Webs: places and the beds between them; and what the waters of one day do."""

from rillweb.errors import NoDepths, NoPlace, NoRain, NoWeb
from rillweb.shares import Share, less, times, total
from rillweb.wholes import is_between, is_whole

MOST_PLACES = 8
MOST_BEDS = 12
MOST_BEDS_OF_A_PLACE = 2
MOST_OF_A_PART = 9


class Web:
    """Places, the beds that begin at them, and the parts of their waters that these bear."""

    def __init__(self, many, beds, parts):
        if not is_between(many, 1, MOST_PLACES):
            raise NoWeb("many")
        if not are_beds(beds, many):
            raise NoWeb("beds")
        if not are_parts(parts, many, beds):
            raise NoWeb("parts")
        self.many = many
        self.beds = list(beds)
        self.parts = list(parts)

    def __eq__(self, other):
        if not isinstance(other, Web):
            return False
        return self.many == other.many and self.beds == other.beds and self.parts == other.parts


def are_beds(things, many):
    """Whether a thing of any kind is a list of beds between so many places."""
    if not isinstance(things, list) or len(things) > MOST_BEDS:
        return False
    if not all([is_a_bed(thing, many) for thing in things]):
        return False
    starts = [bed[0] for bed in things]
    return starts == sorted(starts) and all([starts.count(start) <= MOST_BEDS_OF_A_PLACE for start in starts])


def is_a_bed(thing, many):
    """Whether a thing of any kind is a bed between so many places."""
    if not isinstance(thing, tuple) or len(thing) != 4:
        return False
    start, finish, low, high = thing
    if not is_between(start, 0, many - 1) or not is_between(finish, start + 1, many - 1):
        return False
    return isinstance(low, Share) and isinstance(high, Share) and less(low, high)


def are_parts(things, many, beds):
    """Whether a thing of any kind is a list of the parts of so many places, at which some beds begin."""
    if not isinstance(things, list) or len(things) != many:
        return False
    starts = [bed[0] for bed in beds]
    return all([are_parts_of_one(thing, starts.count(place)) for place, thing in enumerate(things)])


def are_parts_of_one(thing, many):
    """Whether a thing of any kind is the parts of a place at which so many beds begin."""
    if not isinstance(thing, tuple) or len(thing) != many:
        return False
    if not all([is_between(part, 0, MOST_OF_A_PART) for part in thing]):
        return False
    return many == 0 or any([part != 0 for part in thing])


def is_place(web, thing):
    """Whether a thing of any kind is a place of a web."""
    return is_between(thing, 0, web.many - 1)


def is_bed(web, thing):
    """Whether a thing of any kind is the number of a bed of a web."""
    return is_between(thing, 0, len(web.beds) - 1)


def beds_from(web, place):
    """The numbers of the beds that begin at a place."""
    return [number for number, bed in enumerate(web.beds) if bed[0] == place]


def is_fork(web, thing):
    """Whether a thing of any kind is a place of a web with two beds."""
    return is_place(web, thing) and len(beds_from(web, thing)) == 2


def are_depths(web, thing):
    """Whether a thing of any kind is depths of a web, of any size."""
    return isinstance(thing, tuple) and len(thing) == len(web.beds) and all([is_whole(depth) for depth in thing])


def is_rain(web, thing):
    """Whether a thing of any kind is a rain on a web."""
    if not isinstance(thing, tuple) or len(thing) != web.many:
        return False
    return all([isinstance(share, Share) and share.top >= 0 for share in thing])


def parts_borne(parts, amount, ahead_is_first):
    """What the beds of a place bear of its water, in their order; the first one of two bears the first part."""
    whole = sum(parts)
    shares = [times(amount, Share(part, whole)) for part in parts]
    return shares if ahead_is_first else shares[::-1]


def move_of(bed, share):
    """The step of a bed in the evening of a day on which it bore a share."""
    _, _, low, high = bed
    if not less(share, high):
        return 1
    return 0 if less(low, share) else -1


def check_depths(web, thing):
    """Refuse a thing of any kind that is no depths of a web."""
    if not are_depths(web, thing):
        raise NoDepths("depths are a tuple of whole numbers, one for each bed")


def check_rain(web, thing):
    """Refuse a thing of any kind that is no rain on a web."""
    if not is_rain(web, thing):
        raise NoRain("a rain is a tuple of shares, none below 0, one for each place")


def check_place(web, thing):
    """Refuse a thing of any kind that is no place of a web."""
    if not is_place(web, thing):
        raise NoPlace(thing)


def gaps_of(web, numbers):
    """For each place by how much the number of its bed ahead is above that of the other one, 0 where no two begin."""
    gaps = []
    for place in range(web.many):
        here = beds_from(web, place)
        gaps.append(numbers[here[0]] - numbers[here[1]] if len(here) == 2 else 0)
    return tuple(gaps)


def leads_of(gaps):
    """For each place whether the bed ahead is first, by the gaps of its depths; True where no two begin."""
    return tuple([gap >= 0 for gap in gaps])


def flow_of(web, leads, rain):
    """A tuple of two lists: what each place has on a day, and what each bed bears, by which beds are first."""
    waters = []
    bears = []
    for place in range(web.many):
        amount = total([rain[place]] + [share for share, bed in zip(bears, web.beds) if bed[1] == place])
        waters.append(amount)
        bears = bears + parts_borne(web.parts[place], amount, leads[place])
    return (waters, bears)


def moves_of(web, bears):
    """The steps of the beds in the evening of a day, by what they bore."""
    return [move_of(bed, share) for bed, share in zip(web.beds, bears)]


def day_of(web, depths, rain):
    """A tuple of two lists: what each place has on a day, and what each bed bears."""
    check_depths(web, depths)
    check_rain(web, rain)
    return flow_of(web, leads_of(gaps_of(web, depths)), rain)


def borne(web, depths, *, rain):
    """What each bed bears on a day, a list of shares."""
    return day_of(web, depths, rain)[1]


def water(web, depths, *, rain):
    """What each place has on a day, a list of shares."""
    return day_of(web, depths, rain)[0]


def step(web, depths, *, rain):
    """The depths of the next morning."""
    moves = moves_of(web, day_of(web, depths, rain)[1])
    return tuple([depth + move for depth, move in zip(depths, moves)])
