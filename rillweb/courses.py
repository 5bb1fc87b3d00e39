"""Courses: a share for each day, told by stretches."""

from rillweb.errors import NoCourse, NoDay
from rillweb.shares import Share, times, total
from rillweb.spans import MOST_SHARES, MOST_STRETCHES, beside, number_on, round_of, share_on, spans_of, word_from
from rillweb.sums import spans_of_sum
from rillweb.wholes import is_day, is_whole


class Course:
    """A share for each day from 0 on; spans are its stretches with their begins."""

    def __init__(self, stretches):
        if not are_stretches(stretches):
            raise NoCourse("a course is made of a list of one to sixty stretches, the last one without end")
        self.spans = spans_of(stretches)

    def __eq__(self, other):
        return isinstance(other, Course) and first_unlike(self, other) is None


def are_stretches(things):
    """Whether a thing of any kind is a list of stretches of which a course can be made."""
    if not isinstance(things, list) or not 1 <= len(things) <= MOST_STRETCHES:
        return False
    if not all([is_stretch(thing) for thing in things]):
        return False
    ends = [days is None for days, _ in things]
    return ends[-1] and not any(ends[:-1])


def is_stretch(thing):
    """Whether a thing of any kind is a stretch, be it with an end or without one."""
    if not isinstance(thing, tuple) or len(thing) != 2:
        return False
    days, word = thing
    return is_word(word) and (days is None or is_whole(days) and days >= 1)


def is_word(thing):
    """Whether a thing of any kind is a word."""
    if not isinstance(thing, tuple) or not 1 <= len(thing) <= MOST_SHARES:
        return False
    return all([isinstance(share, Share) for share in thing])


def course_of(spans):
    """The course of some spans, be they more than a course can be made of."""
    course = Course([(None, (Share(0),))])
    course.spans = spans
    return course


def on(course, day):
    """The share of a day."""
    if not is_day(day):
        raise NoDay("a day is a whole number from 0 to 10 ** 15")
    return share_on(course.spans[number_on(course.spans, day)], day)


def sum_to(course, days):
    """The sum of the shares of the first so many days."""
    if not is_day(days):
        raise NoDay("a number of days is a whole number from 0 to 10 ** 15")
    tops = {}
    for begin, stop, word in course.spans:
        if begin < days:
            past = days if stop is None else min(days, stop)
            rounds, rest = divmod(past - begin, len(word))
            for at, share in enumerate(word):
                told = rounds + 1 if at < rest else rounds
                tops[share.bottom] = tops.get(share.bottom, 0) + told * share.top
    return total([Share(top, bottom) for bottom, top in tops.items()])


def first_unlike(one, other):
    """The least day for which two courses tell unlike shares, None where there is none."""
    for begin, stop, mine, theirs in beside(one.spans, other.spans):
        past = begin + len(mine[2]) + len(theirs[2])
        if stop is not None:
            past = min(past, stop)
        for day in range(begin, past):
            if share_on(mine, day) != share_on(theirs, day):
                return day
    return None


def end(course):
    """A tuple (begin, round): the least round in which a course comes round, from the least day on."""
    return round_of(course.spans)


def added(courses):
    """The course of the sums of a list of courses, day by day; TooLong where it can't be told."""
    return course_of(spans_of_sum([course.spans for course in courses]))


def taken(share, course):
    """The course of the shares of a course, each times a share."""
    stretches = []
    for begin, stop, word in course.spans:
        days = None if stop is None else stop - begin
        stretches.append((days, tuple([times(share, each) for each in word])))
    return course_of(spans_of(stretches))


def later(course, days):
    """The course that tells for each day what a course tells so many days later."""
    if not is_day(days):
        raise NoDay("a number of days is a whole number from 0 to 10 ** 15")
    stretches = []
    for span in course.spans:
        begin, stop, _ = span
        if stop is None or stop > days:
            first = max(begin, days)
            stretches.append((None if stop is None else stop - first, word_from(span, first)))
    return course_of(spans_of(stretches))
