"""What is handed in to a run: whether it is so as the document tells it."""

from rillweb.courses import Course
from rillweb.errors import NoDepths, NoRain
from rillweb.tellings import retold
from rillweb.webs import are_depths, is_bed, is_fork
from rillweb.wholes import is_between, is_whole

MOST_DEEP = 10 ** 12
LAST_DAY_OF_A_DIG = 10 ** 12
MOST_DIGS = 20
MOST_TURNED = 20
MOST_STRETCHES_OF_RAIN = 10
MOST_SHARES_OF_RAIN = 12


def are_first_depths(web, thing):
    """Whether a thing of any kind is depths from which a run can start."""
    return are_depths(web, thing) and all([-MOST_DEEP <= depth <= MOST_DEEP for depth in thing])


def check_first_depths(web, thing):
    """Refuse a thing of any kind that is no depths from which a run can start."""
    if not are_first_depths(web, thing):
        raise NoDepths("depths are a tuple of whole numbers from -10 ** 12 to 10 ** 12, one for each bed")


def spans_of_rains(web, thing):
    """For each place the spans of its rain; a thing of any kind that is no rains is refused."""
    rains = []
    if isinstance(thing, list) and len(thing) == web.many:
        rains = [spans_of_rain(course) if isinstance(course, Course) else None for course in thing]
    if len(rains) != web.many or any([rain is None for rain in rains]):
        raise NoRain("rains are a list of courses of few and short stretches, none below 0, one for each place")
    return rains


def spans_of_rain(course):
    """The spans of a course, few enough and with words short enough for a rain, None where it is no rain."""
    spans = course.spans
    if any([share.top < 0 for _, _, word in spans for share in word]):
        return None
    if len(spans) <= MOST_STRETCHES_OF_RAIN and all([len(word) <= MOST_SHARES_OF_RAIN for _, _, word in spans]):
        return spans
    return retold(spans, MOST_SHARES_OF_RAIN, MOST_STRETCHES_OF_RAIN)


def is_day_of_a_dig(thing):
    """Whether a thing of any kind is a day on which there can be a dig, or a turned tie."""
    return is_between(thing, 0, LAST_DAY_OF_A_DIG)


def are_digs(web, thing):
    """Whether a thing of any kind is digs."""
    return isinstance(thing, tuple) and len(thing) <= MOST_DIGS and all([is_dig(web, each) for each in thing])


def is_dig(web, thing):
    """Whether a thing of any kind is a dig."""
    if not isinstance(thing, tuple) or len(thing) != 3:
        return False
    day, bed, by = thing
    return is_day_of_a_dig(day) and is_bed(web, bed) and is_whole(by) and by != 0


def are_turned(web, thing):
    """Whether a thing of any kind is turned ties."""
    if not isinstance(thing, tuple) or len(thing) > MOST_TURNED:
        return False
    return all([is_turned(web, each) for each in thing]) and len(set(thing)) == len(thing)


def is_turned(web, thing):
    """Whether a thing of any kind is a turned tie."""
    if not isinstance(thing, tuple) or len(thing) != 2:
        return False
    day, place = thing
    return is_day_of_a_dig(day) and is_fork(web, place)
