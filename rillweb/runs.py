"""Runs: a web from day 0 on, under known rains, all days told."""

from rillweb.basins import basin_of
from rillweb.courses import course_of
from rillweb.errors import NoBed, NoDay, NoDigs, NoPlace, NoTurned, TooLong
from rillweb.givens import are_digs, are_turned, check_first_depths, spans_of_rains
from rillweb.shares import Share
from rillweb.spans import alike_from, parted, put_otherwise
from rillweb.ties import spans_of_ties
from rillweb.webs import beds_from, check_place, is_bed, is_fork
from rillweb.wholes import is_day


class Run:
    """A web whose depths on the morning of day 0, rains, digs and turned ties are known."""

    def __init__(self, web, depths, *, rains, digs=(), turned=()):
        check_first_depths(web, depths)
        spans = spans_of_rains(web, rains)
        if not are_digs(web, digs):
            raise NoDigs("digs are a tuple of at most twenty tuples (day, bed, by)")
        if not are_turned(web, turned):
            raise NoTurned("turned ties are a tuple of at most twenty tuples (day, place), all unlike")
        self.web = web
        self.depths = depths
        self.rains = list(rains)
        self.digs = digs
        self.turned = turned
        self.basins = []
        self.kept_ties = {}
        for place in range(web.many):
            basin = basin_of(web, place, self.basins, spans[place], start_of(self, place))
            if basin is None:
                raise TooLong(place)
            self.basins.append(basin)

    def water_of(self, place):
        """The course of the water of a place."""
        return basin_at(self, place).course_of_water()

    def borne_by(self, bed):
        """The course of what a bed bears."""
        return basin_above(self, bed).course_of_bed(bed)

    def leads(self, place):
        """The course that tells 1 on the days on which the bed that stands ahead is first, else 0."""
        return fork_at(self, place).course_of_choice()

    def moves(self, bed):
        """The course of the steps of a bed in the evenings."""
        return basin_above(self, bed).course_of_steps(bed)

    def ties(self, place):
        """The course that tells 1 on the days on which both beds of a place are of one depth, else 0."""
        basin = fork_at(self, place)
        if place not in self.kept_ties:
            self.kept_ties[place] = course_of(put_otherwise(ties_of_fork(self, basin), (Share(0), Share(1))))
        return self.kept_ties[place]

    def depth_on(self, bed, day):
        """How deep a bed is on the morning of a day, behind that day's digs."""
        basin = basin_above(self, bed)
        if not is_day(day):
            raise NoDay("a day is a whole number from 0 to 10 ** 15")
        return depth_of(self, basin, bed, day)

    def got_by(self, place, days):
        """How much water came to a place on the first so many days."""
        basin = basin_at(self, place)
        if not is_day(days):
            raise NoDay("a number of days is a whole number from 0 to 10 ** 15")
        return basin.water_on_first(days)

    def end_of(self, place):
        """A tuple (begin, round): from which day on, and by how many, a place's water and choice come round."""
        return basin_at(self, place).ending()

    def wins(self, place):
        """A tuple (bed, day): the bed that is first from a least day on for ever, None where none is."""
        return fork_at(self, place).winner()

    def drift(self, bed):
        """A tuple (sum, round): the sum of the moves of a bed in a round of the place at which it begins."""
        return basin_above(self, bed).steps_in_a_round(bed)


def start_of(run, place):
    """How the beds of a place start: the gap on day 0, by how much digs make it greater, and the turned days."""
    if not is_fork(run.web, place):
        return (0, {}, [])
    ahead, other = beds_from(run.web, place)
    digs = {}
    for day, bed, by in run.digs:
        if bed == ahead:
            digs[day] = digs.get(day, 0) + by
        elif bed == other:
            digs[day] = digs.get(day, 0) - by
    turned = [day for day, there in run.turned if there == place]
    return (run.depths[ahead] - run.depths[other], digs, turned)


def basin_at(run, place):
    """The basin of a place; NoPlace where it is none."""
    check_place(run.web, place)
    return run.basins[place]


def fork_at(run, place):
    """The basin of a place with two beds; NoPlace where it is none."""
    if not is_fork(run.web, place):
        raise NoPlace(place)
    return run.basins[place]


def basin_above(run, bed):
    """The basin at which a bed begins; NoBed where it is none."""
    if not is_bed(run.web, bed):
        raise NoBed(bed)
    return run.basins[run.web.beds[bed][0]]


def depth_of(run, basin, bed, day):
    """How deep a bed of a basin is on the morning of a day, behind that day's digs, be the day as late as it may."""
    dug = sum([by for when, which, by in run.digs if which == bed and when <= day])
    return run.depths[bed] + basin.steps_on_first(bed, day) + dug


def gaps_along(run, basin, days):
    """The gap of a basin's two beds on all days: spans of what it gains, and the gaps on which these begin.

    Each day of a dig begins a span, and so does each of some more days.
    """
    ahead, other = basin.beds
    days = days + [day for day, bed, _ in run.digs if bed in basin.beds]
    spans = parted(put_otherwise(basin.spans, basin.signs.gains_of_sign()), days)
    gaps = [depth_of(run, basin, ahead, begin) - depth_of(run, basin, other, begin) for begin, _, _ in spans]
    return (spans, gaps)


def ties_of_fork(run, basin):
    """Spans of 1 on the days on which both beds of a basin are of one depth, else of 0."""
    spans, gaps = gaps_along(run, basin, [])
    return spans_of_ties(spans, gaps)


def settled(one, other, place):
    """The least day from which on leads of two runs of one web are the same for ever, None where they never are."""
    return alike_from(fork_at(one, place).course_of_choice().spans, fork_at(other, place).course_of_choice().spans)
