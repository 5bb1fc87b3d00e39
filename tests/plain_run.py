"""A plain walk through the days of a web, one by one, over fractions; and small webs and runs drawn by chance."""

from fractions import Fraction
from math import lcm

from rillweb.courses import Course
from rillweb.runs import Run
from rillweb.shares import Share
from rillweb.webs import Web


def share(number):
    """The share that stands for a number or a fraction."""
    number = Fraction(number)
    return Share(number.numerator, number.denominator)


def shares(*numbers):
    """A word, or a rain, of numbers or fractions."""
    return tuple(share(number) for number in numbers)


def web_of(many, beds, parts):
    """A web whose marks are numbers or fractions."""
    return Web(many, [(start, end, share(low), share(high)) for start, end, low, high in beds], parts)


def falls(stretches, begin, many):
    """The numbers that stretches (days, word) of numbers tell for so many days from a day on."""
    told = []
    for day in range(begin, begin + many):
        since = 0
        for days, word in stretches:
            if days is None or day < since + days:
                told.append(word[(day - since) % len(word)])
                break
            since += days
    return told


class Setting:
    """All that a run is made of, as plain values: rains are lists of stretches (days, word) of numbers."""

    def __init__(self, many, beds, parts, depths, rains, digs=(), turned=()):
        self.many = many
        self.beds = beds
        self.parts = parts
        self.depths = depths
        self.rains = rains
        self.digs = digs
        self.turned = turned

    def web(self):
        """The web."""
        return web_of(self.many, self.beds, self.parts)

    def courses(self):
        """The rains."""
        return [Course([(days, shares(*word)) for days, word in stretches]) for stretches in self.rains]

    def run(self, **kinds):
        """The run, perhaps with other digs or turned ties; it may be refused."""
        given = {"digs": self.digs, "turned": self.turned, **kinds}
        return Run(self.web(), self.depths, rains=self.courses(), **given)

    def beds_of(self, place):
        """The numbers of the beds that begin at a place."""
        return [bed for bed, told in enumerate(self.beds) if told[0] == place]

    def forks(self):
        """The places with two beds."""
        return [place for place in range(self.many) if len(self.beds_of(place)) == 2]

    def dug(self, day):
        """By how much each bed is made deeper on the morning of a day."""
        by = [0] * len(self.beds)
        for when, bed, much in self.digs:
            by[bed] += much if when == day else 0
        return by


class Walked:
    """What each of so many days is like: lists of what each place, or each bed, has, by days.

    begin is the first day, depths are those of its morning, ahead of its digs.
    """

    def __init__(self, setting, days, begin=0, depths=None):
        self.setting = setting
        self.begin = begin
        many, beds = setting.many, len(setting.beds)
        self.falls = [falls(stretches, begin, days) for stretches in setting.rains]
        self.water, self.leads, self.ties = [[[] for _ in range(many)] for _ in range(3)]
        self.borne, self.moves, self.depth = [[[] for _ in range(beds)] for _ in range(3)]
        self.now = list(setting.depths if depths is None else depths)
        self.outs = [setting.beds_of(place) for place in range(many)]
        self.ins = [[bed for bed in range(beds) if setting.beds[bed][1] == place] for place in range(many)]
        for late in range(days):
            self.walk(late)

    def walk(self, late):
        """Walk through a day."""
        for bed, by in enumerate(self.setting.dug(self.begin + late)):
            self.now[bed] += by
            self.depth[bed].append(self.now[bed])
        for place in range(self.setting.many):
            came = self.falls[place][late] + sum(self.borne[bed][late] for bed in self.ins[place])
            self.water[place].append(came)
            parts = self.setting.parts[place]
            for part, bed in zip(parts, self.order(late, place)):
                self.borne[bed].append(Fraction(came * part, sum(parts)))
        for bed, (_, _, low, high) in enumerate(self.setting.beds):
            step = (self.borne[bed][late] >= high) - (self.borne[bed][late] <= low)
            self.moves[bed].append(step)
            self.now[bed] += step

    def order(self, late, place):
        """The beds of a place, the first one of this day ahead."""
        beds = self.outs[place]
        if len(beds) < 2:
            return beds
        ahead, other = self.now[beds[0]], self.now[beds[1]]
        lead = ahead >= other
        if ahead == other and (self.begin + late, place) in self.setting.turned:
            lead = False
        self.leads[place].append(int(lead))
        self.ties[place].append(int(ahead == other))
        return beds if lead else beds[::-1]

    def signs(self, place):
        """The water and the choice by days, as small numbers."""
        numbers = {}
        pairs = zip(self.water[place], self.leads[place] or [1] * len(self.water[place]))
        return [numbers.setdefault(pair, len(numbers)) for pair in pairs]


class Leaps:
    """A walk to far days: blocks of days walked one by one, then leapt over as often as all beds stay in their order.

    depths are those of the morning of the day, ahead of its digs; got is what came to the places till then.
    """

    def __init__(self, setting):
        self.setting = setting
        self.day = 0
        self.depths = list(setting.depths)
        self.got = [Fraction(0)] * setting.many

    def events(self):
        """The days on which something is otherwise than on the days about them."""
        days = [day for day, _, _ in self.setting.digs]
        days += [day + late for day, _ in self.setting.turned for late in (0, 1)]
        for stretches in self.setting.rains:
            since = 0
            for many, _ in stretches[:-1]:
                since += many
                days.append(since)
        return sorted(set(days))

    def word_length(self):
        """The length of a word of all rains together, as they are on this day."""
        size = 1
        for stretches in self.setting.rains:
            since = 0
            for days, word in stretches:
                if days is None or self.day < since + days:
                    size = lcm(size, len(word))
                    break
                since += days
        return size

    def go_to(self, target):
        """Walk to the morning of a day."""
        for event in [day for day in self.events() if self.day < day < target] + [target]:
            self.go_by(event)

    def go_by(self, event):
        """Walk to the morning of a day; between there is none on which anything is otherwise."""
        size = self.word_length()
        tries = 0
        while self.day < event:
            tries += 1
            many = min((1, 2, 3, 4, 6, 12)[tries % 6] * size, event - self.day)
            walked = Walked(self.setting, many, self.day, self.depths)
            self.leap(walked, many, (event - self.day) // many if many % size == 0 else 1)

    def leap(self, walked, many, most):
        """Take up so many days that were walked, and again at most so many times, while all orders stay."""
        first_day_dug = self.setting.dug(self.day)
        times = 1 if any(first_day_dug) or any(day == self.day for day, _ in self.setting.turned) else most
        for place in self.setting.forks():
            ahead, other = self.setting.beds_of(place)
            change = sum(walked.moves[ahead]) - sum(walked.moves[other])
            for late in range(many):
                gap = walked.depth[ahead][late] - walked.depth[other][late]
                room = gap if gap >= 0 else -1 - gap
                nearer = -change if gap >= 0 else change
                if nearer > 0:
                    times = min(times, room // nearer + 1)
        self.day += times * many
        self.depths = [depth + by + times * sum(moves)
                       for depth, by, moves in zip(self.depths, first_day_dug, walked.moves)]
        self.got = [much + times * sum(water) for much, water in zip(self.got, walked.water)]


def greedy(told, most=60):
    """The begins of the longest stretches, with words of at most so many, that tell some days."""
    begins = [0]
    borders = []
    begin = 0
    for day, sign in enumerate(told):
        border = 0
        if day > begin:
            border = borders[-1]
            while border and told[begin + border] != sign:
                border = borders[border - 1]
            border += told[begin + border] == sign
        if day + 1 - begin - border > most:
            begin = day
            begins.append(day)
            borders = []
            border = 0
        borders.append(border)
    return begins


def draw(rng, *, places=(2, 5), stretches=(1, 3), word=(1, 3), days=(1, 40), apart=(0, 6), digs=3, turned=3,
         near=60, values=(0, 1, 1, 2, 3)):
    """A small setting by chance."""
    many = rng.randint(*places)
    beds, parts = draw_beds(rng, many, values)
    depths = tuple(rng.choice((-1, 1)) * rng.randint(*apart) for _ in beds)
    setting = Setting(many, beds, parts, depths, [draw_rain(rng, stretches, word, days, values) for _ in range(many)])
    if beds:
        setting.digs = tuple((rng.randrange(near), rng.randrange(len(beds)), rng.choice((-3, -2, -1, 1, 2, 3)))
                             for _ in range(rng.randint(0, digs)))
    if setting.forks():
        setting.turned = tuple(sorted({(rng.randrange(near), rng.choice(setting.forks()))
                                       for _ in range(rng.randint(0, turned))}))
    return setting


def draw_beds(rng, many, values):
    """Beds and parts of so many places."""
    beds, parts = [], []
    for place in range(many):
        here = rng.choice((0, 1, 2, 2, 2)) if place < many - 1 else 0
        here = min(here, 12 - len(beds))
        for _ in range(here):
            low = Fraction(rng.choice(values + (-1,)), rng.choice((1, 1, 2, 3)))
            beds.append((place, rng.randint(place + 1, many - 1), low, low + Fraction(rng.randint(1, 4), 2)))
        told = tuple(rng.choice((0, 1, 1, 2, 3, 5)) for _ in range(here))
        parts.append(told if any(told) else (1,) * here)
    return beds, parts


def draw_rain(rng, stretches, word, days, values):
    """Stretches of a rain."""
    def draw_word():
        return tuple(Fraction(rng.choice(values), rng.choice((1, 1, 1, 2))) for _ in range(rng.randint(*word)))
    many = rng.randint(*stretches)
    return [(rng.randint(*days), draw_word()) for _ in range(many - 1)] + [(None, draw_word())]
