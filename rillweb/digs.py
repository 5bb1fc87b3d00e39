"""Digs: the fewest after which a bed wins, and by how much one that wins stays deeper."""

from rillweb.errors import NoBed, NoDigs, NoPlace
from rillweb.givens import are_first_depths, check_first_depths, spans_of_rains
from rillweb.runs import gaps_along
from rillweb.trials import Trials
from rillweb.webs import gaps_of, is_bed, is_fork
from rillweb.wholes import is_between

MOST_STEPS = 2


def fewest(web, depths, *, rains, bed, most):
    """A tuple (number of steps, depths): the fewest steps, up to most, after which a bed wins; None where none do."""
    check_first_depths(web, depths)
    spans = spans_of_rains(web, rains)
    if not is_bed(web, bed) or not is_fork(web, web.beds[bed][0]):
        raise NoBed(bed)
    if not is_between(most, 0, MOST_STEPS):
        raise NoDigs("the most digs are here a whole number from 0 to 2")
    trials = Trials(web, spans)
    for steps in range(most + 1):
        for digs in ways_to_dig(len(depths), steps):
            dug = tuple([depth + by for depth, by in zip(depths, digs)])
            if are_first_depths(web, dug) and trials.wins(bed, gaps_of(web, dug)):
                return (steps, dug)
    return None


def ways_to_dig(many, steps):
    """All tuples of so many whole numbers that come to so many steps, up or down, together; sorted."""
    if many == 0:
        return [()] if steps == 0 else []
    found = []
    for by in range(-steps, steps + 1):
        found = found + [(by,) + others for others in ways_to_dig(many - 1, steps - abs(by))]
    return found


def margin(run, place):
    """By how much at least the bed that wins is deeper than the other one, from the day on from which it wins."""
    won = run.wins(place)
    if won is None:
        raise NoPlace(place)
    bed, since = won
    basin = run.basins[place]
    spans, gaps = gaps_along(run, basin, [since])
    nearest = []
    for span, gap in zip(spans, gaps):
        if span[0] >= since:
            nearest = nearest + gaps_nearest_0(span, gap)
    return min([abs(gap) for gap in nearest])


def gaps_nearest_0(span, gap):
    """Gaps of a span of gains, among them that nearest to 0 where all are of one sign; gap is that of its begin.

    From round to round of the word the gap goes one way, so it is nearest in the first one or in the last one.
    """
    begin, stop, gains = span
    size = len(gains)
    days = size if stop is None else stop - begin
    whole = sum(gains)
    found = []
    for late in list(range(min(days, size))) + list(range(max(0, days - size), days)):
        found.append(gap + late // size * whole + sum(gains[:late % size]))
    return found
