"""Trials: runs of one web under the same rains, without digs, from many depths.

Only the gaps on the first morning tell how such a run goes; and a place hangs
only on those of the places from which water comes to it. So each place is told
but once for these.
"""

from rillweb.basins import basin_of


def places_above(web, place):
    """A place and all from which water comes to it, in their order."""
    found = [place]
    for start in range(place - 1, -1, -1):
        if any([bed[0] == start and bed[1] in found for bed in web.beds]):
            found.append(start)
    return sorted(found)


class Trials:
    """Runs of a web, under rains of which the spans are told, by their gaps on the first morning."""

    def __init__(self, web, spans):
        self.web = web
        self.spans = spans
        self.above = [places_above(web, place) for place in range(web.many)]
        self.found = {}

    def basin(self, place, gaps):
        """The basin of a place by the gaps at all places; None where it, or one above it, is too long to be told."""
        key = (place, tuple([gaps[each] for each in self.above[place]]))
        if key not in self.found:
            self.found[key] = self.new_basin(place, gaps)
        return self.found[key]

    def new_basin(self, place, gaps):
        """The basin of a place, told anew."""
        above = [self.basin(each, gaps) for each in self.above[place][:-1]]
        if any([basin is None for basin in above]):
            return None
        return basin_of(self.web, place, above, self.spans[place], (gaps[place], {}, []))

    def wins(self, bed, gaps):
        """Whether a bed wins in the run that starts with some gaps; it doesn't where the run is too long to be told."""
        basin = self.basin(self.web.beds[bed][0], gaps)
        won = None if basin is None else basin.winner()
        if won is None or won[0] != bed:
            return False
        return all([self.basin(place, gaps) is not None for place in range(self.web.many)])
