"""Chances: ties, and what comes of it where one of them goes the other way."""

from rillweb.errors import NoDay, NoTie
from rillweb.givens import is_day_of_a_dig
from rillweb.runs import Run, settled
from rillweb.spans import share_on
from rillweb.webs import beds_from, is_fork
from rillweb.wholes import is_between

MOST_DAYS = 200


def ties_of(run, days):
    """A list of tuples (day, place): the ties on the first so many days at places of unlike parts, sorted."""
    if not is_between(days, 0, MOST_DAYS):
        raise NoDay("a number of days is here a whole number from 0 to 200")
    found = []
    for place, parts in enumerate(run.web.parts):
        if len(parts) == 2 and parts[0] != parts[1]:
            found = found + [(day, place) for day in days_of_ones(run.ties(place), days)]
    return sorted(found)


def days_of_ones(course, days):
    """Those of the first so many days for which a course doesn't tell 0."""
    found = []
    for span in course.spans:
        begin, stop, _ = span
        past = days if stop is None else min(stop, days)
        found = found + [day for day in range(begin, past) if share_on(span, day).top != 0]
    return found


def turn(run, day, place):
    """The run of the same in which a tie is turned, too, or no more where it was; NoTie where there is none."""
    if not is_tie(run, day, place):
        raise NoTie("there is no tie of this place on this day")
    if (day, place) in run.turned:
        turned = tuple([tie for tie in run.turned if tie != (day, place)])
    else:
        turned = run.turned + ((day, place),)
    return Run(run.web, run.depths, rains=run.rains, digs=run.digs, turned=turned)


def is_tie(run, day, place):
    """Whether things of any kind are a day and a place with a tie."""
    if not is_day_of_a_dig(day) or not is_fork(run.web, place):
        return False
    ahead, other = beds_from(run.web, place)
    return run.depth_on(ahead, day) == run.depth_on(other, day)


def matters(run, day, place):
    """Whether, where a tie is turned, leads of some place are otherwise on days without end."""
    other = turn(run, day, place)
    return any([settled(run, other, each) is None for each in range(run.web.many) if is_fork(run.web, each)])
