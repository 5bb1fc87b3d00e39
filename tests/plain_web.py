"""A plain reckoning of one day of a web over fractions: all depths a step off, all rows of who was first, all amounts."""

from fractions import Fraction
from itertools import product

from plain_run import draw_beds, share, web_of


class PlainWeb:
    """A web as plain values: beds are tuples (start, end, low, high) of numbers."""

    def __init__(self, many, beds, parts):
        self.many = many
        self.beds = beds
        self.parts = parts
        self.outs = [[bed for bed, told in enumerate(beds) if told[0] == place] for place in range(many)]

    def web(self):
        """The web."""
        return web_of(self.many, self.beds, self.parts)

    def leads(self, depths):
        """Whether the bed ahead is first, for each place."""
        return tuple(len(here) < 2 or depths[here[0]] >= depths[here[1]] for here in self.outs)

    def day(self, leads, rain):
        """What each place has, and each bed bears."""
        waters = list(rain)
        bears = [Fraction(0)] * len(self.beds)
        for place, here in enumerate(self.outs):
            order = here if leads[place] else here[::-1]
            for part, bed in zip(self.parts[place], order):
                bears[bed] = waters[place] * Fraction(part, sum(self.parts[place]))
                waters[self.beds[bed][1]] += bears[bed]
        return waters, bears

    def moves(self, leads, rain):
        """The steps of the beds in the evening."""
        bears = self.day(leads, rain)[1]
        return tuple((much >= high) - (much <= low) for much, (_, _, low, high) in zip(bears, self.beds))

    def step(self, depths, rain):
        """The depths of the next morning."""
        return tuple(depth + move for depth, move in zip(depths, self.moves(self.leads(depths), rain)))

    def alone(self, place, amount):
        """The rain of an amount at a place alone."""
        return [Fraction(amount) if each == place else Fraction(0) for each in range(self.many)]

    def rows(self):
        """All rows of who can be first."""
        return product(*[(False, True) if len(here) == 2 else (True,) for here in self.outs])

    def marks(self, place):
        """0 and all amounts at a place, at which some bed begins to move otherwise, whoever is first."""
        found = {Fraction(0)}
        for leads in self.rows():
            for factor, (_, _, low, high) in zip(self.day(leads, self.alone(place, 1))[1], self.beds):
                if factor:
                    found |= {mark / factor for mark in (Fraction(low), Fraction(high)) if mark > 0}
        return sorted(found)


def probes(marks):
    """The marks, one amount between each two of them, and one beyond: those at odd places are the ones between."""
    found = []
    for here, there in zip(marks, marks[1:]):
        found += [here, (here + there) / 2]
    return [*found, marks[-1], marks[-1] + 1]


def stretch_of(found, amounts):
    """The stretch, as a tuple with fractions, of which the probes with some numbers are; they must be in one row."""
    first, last = min(found), max(found)
    assert sorted(found) == list(range(first, last + 1)), "this is no one stretch"
    low = amounts[first if first % 2 == 0 else first - 1]
    if last == len(amounts) - 1:
        return (low, first % 2 == 0, None, False)
    return (low, first % 2 == 0, amounts[last if last % 2 == 0 else last + 1], last % 2 == 0)


def plain_stretch(stretch):
    """A told stretch as a tuple with fractions."""
    if stretch is None:
        return None
    low, has_low, high, has_high = stretch
    assert isinstance(has_low, bool) and isinstance(has_high, bool)
    high = None if high is None else Fraction(high.top, high.bottom)
    return (Fraction(low.top, low.bottom), has_low, high, has_high)


def about(depths):
    """All depths that are a step off, or the same, bed by bed: sorted."""
    return product(*[(depth - 1, depth, depth + 1) for depth in depths])


def draw_web(rng, places=(2, 4), most=4, values=(0, 1, 1, 2, 3)):
    """A small web by chance, of so many places and at most so many beds."""
    while True:
        many = rng.randint(*places)
        beds, parts = draw_beds(rng, many, values)
        if len(beds) <= most:
            return PlainWeb(many, beds, parts)


def draw_large(rng, forks=5, alone=2):
    """A web of eight places, of which so many have two beds, and then so many one."""
    beds, parts = [], []
    for place in range(8):
        many = 2 if place < forks else 1 if place < forks + alone and place < 7 else 0
        for _ in range(many):
            low = Fraction(rng.randint(-2, 12), rng.choice((1, 2, 3, 7)))
            beds.append((place, rng.randint(place + 1, 7), low, low + Fraction(rng.randint(1, 12), 4)))
        parts.append(tuple(rng.randint(1, 9) for _ in range(many)))
    return PlainWeb(8, beds, parts)


def rain_of(numbers):
    """A rain of numbers or fractions."""
    return tuple(share(number) for number in numbers)
