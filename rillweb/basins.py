"""Basins: the places of a run, all days told."""

from rillweb.courses import course_of
from rillweb.flows import Inflow, waters_told
from rillweb.shares import Share, total
from rillweb.signs import Signs, numbered
from rillweb.spans import MOST_SHARES, MOST_STRETCHES, put_otherwise, round_of
from rillweb.tallies import ShareTally, Tally
from rillweb.tellings import retold
from rillweb.walks import choices
from rillweb.webs import beds_from


class Basin:
    """A place of a run: the numbers of its beds, and the spans of the signs of its days.

    What is worked out of them is kept, so that it is worked out but once.
    """

    def __init__(self, beds, signs, spans):
        self.beds = beds
        self.signs = signs
        self.spans = spans
        self.kept = {}

    def at(self, bed):
        """Which of the beds of the place a bed is."""
        return self.beds.index(bed)

    def course_of_water(self):
        """The course of the water."""
        if "water" not in self.kept:
            self.kept["water"] = course_of(put_otherwise(self.spans, self.signs.water_of_sign()))
        return self.kept["water"]

    def course_of_bed(self, bed):
        """The course of what a bed bears."""
        if ("borne", bed) not in self.kept:
            self.kept["borne", bed] = course_of(put_otherwise(self.spans, self.signs.borne_of_sign(self.at(bed))))
        return self.kept["borne", bed]

    def course_of_choice(self):
        """The course that tells 1 where the bed ahead is first, else 0."""
        if "choice" not in self.kept:
            shares = [Share(sign % 2) for sign in range(len(self.signs.bears))]
            self.kept["choice"] = course_of(put_otherwise(self.spans, shares))
        return self.kept["choice"]

    def spans_of_steps(self, bed):
        """The spans of the steps of a bed."""
        if ("steps", bed) not in self.kept:
            self.kept["steps", bed] = put_otherwise(self.spans, self.signs.steps_of_sign(self.at(bed)))
        return self.kept["steps", bed]

    def course_of_steps(self, bed):
        """The course of the steps of a bed."""
        if ("moves", bed) not in self.kept:
            shares = (Share(0), Share(1), Share(-1))
            self.kept["moves", bed] = course_of(put_otherwise(self.spans_of_steps(bed), shares))
        return self.kept["moves", bed]

    def steps_on_first(self, bed, days):
        """The sum of the steps of a bed on the first so many days."""
        if ("tally", bed) not in self.kept:
            self.kept["tally", bed] = Tally(self.spans_of_steps(bed))
        return self.kept["tally", bed].first(days)

    def steps_in_a_round(self, bed):
        """The sum of the steps of a bed in a round of the place, and this round."""
        word = self.spans[-1][2]
        return (sum([self.signs.steps[sign][self.at(bed)] for sign in word]), len(word))

    def water_on_first(self, days):
        """The sum of the water on the first so many days."""
        if "got" not in self.kept:
            self.kept["got"] = ShareTally(self.course_of_water().spans)
        return self.kept["got"].first(days)

    def ending(self):
        """The tuple (begin, round) from which on, and by which, the signs come round."""
        if "ending" not in self.kept:
            self.kept["ending"] = round_of(self.spans)
        return self.kept["ending"]

    def ending_of_choice(self):
        """The tuple (begin, round) from which on, and by which, the choice comes round."""
        if "ending of choice" not in self.kept:
            self.kept["ending of choice"] = round_of(self.course_of_choice().spans)
        return self.kept["ending of choice"]

    def winner(self):
        """A tuple (bed, day): the bed that is first from a least day on for ever, None where none is."""
        begin, size = self.ending_of_choice()
        if size != 1:
            return None
        return (self.beds[1 - self.spans[-1][2][0] % 2], begin)


def borne_down(web, basin, place):
    """What the beds of a basin bear down to a place together, by its signs; None where none lead there."""
    there = [at for at, bed in enumerate(basin.beds) if web.beds[bed][1] == place]
    if not there:
        return None
    return [total([shares[at] for at in there]) for shares in basin.signs.bears]


def waters_of(web, place, above, rain, signs):
    """The spans of the numbers of the waters of a place, by the basins above and the spans of its rain, or None."""
    shares, spans = numbered(rain)
    lists = [shares]
    courses = [spans]
    for basin in above:
        down = borne_down(web, basin, place)
        if down is not None:
            lists.append(down)
            courses.append(basin.spans)
    return waters_told(Inflow(signs, lists), courses)


def basin_of(web, place, above, rain, start):
    """The basin of a place, by those above it, and the spans of its rain; None where it is too long to be told.

    start is a tuple of what choices wants to know: the gap on day 0, the digs, and the turned days.
    """
    beds = beds_from(web, place)
    signs = Signs(web.parts[place], [web.beds[bed] for bed in beds])
    waters = waters_of(web, place, above, rain, signs)
    if waters is None:
        return None
    if len(beds) == 2:
        gap, digs, turned = start
        spans = retold(choices(waters, signs.gains_of_sign(), gap, digs, turned), MOST_SHARES, MOST_STRETCHES)
    else:
        spans = put_otherwise(waters, [2 * number + 1 for number in range(len(signs.waters))])
    return None if spans is None else Basin(beds, signs, spans)
