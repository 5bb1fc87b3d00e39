"""All that a run tells (4.3, 5.1 to 5.3, 6.1), against a plain walk day by day, at many small runs drawn by chance."""

import random
import unittest

import plain_run
from plain import fraction
from plain_run import Leaps, Walked

from rillweb.chances import ties_of
from rillweb.courses import on
from rillweb.errors import TooLong
from rillweb.runs import settled

FAR = 10 ** 12


def told_of(course, days):
    """The fractions that a course tells for some days."""
    return [fraction(on(course, day)) for day in days]


class Walks(unittest.TestCase):
    def settings(self, seed, many, *kinds):
        """Settings drawn by chance that can be told, with their runs."""
        rng = random.Random(seed)
        made = 0
        while made < many:
            setting = plain_run.draw(rng, **rng.choice(kinds))
            try:
                run = setting.run()
            except TooLong:
                continue
            made += 1
            yield rng, setting, run

    def same(self, setting, run, walked):
        """All that is told of some days is as on the walk."""
        days = range(walked.begin, walked.begin + len(walked.water[0]))
        for place in range(setting.many):
            self.assertEqual(told_of(run.water_of(place), days), walked.water[place])
        for place in setting.forks():
            self.assertEqual(told_of(run.leads(place), days), walked.leads[place])
            self.assertEqual(told_of(run.ties(place), days), walked.ties[place])
        for bed in range(len(setting.beds)):
            self.assertEqual(told_of(run.borne_by(bed), days), walked.borne[bed])
            self.assertEqual(told_of(run.moves(bed), days), walked.moves[bed])
            self.assertEqual([run.depth_on(bed, day) for day in days], walked.depth[bed])


class TestNear(Walks):
    def check(self, seed, many, days, *kinds):
        for rng, setting, run in self.settings(seed, many, *kinds):
            walked = Walked(setting, days)
            self.same(setting, run, walked)
            self.check_got(setting, run, walked)
            self.check_ends(setting, run, walked)
            self.check_ties(rng, setting, run, walked)

    def check_got(self, setting, run, walked):
        for place in range(setting.many):
            got = 0
            for day, came in enumerate(walked.water[place]):
                if day % 7 == 0:
                    self.assertEqual(fraction(run.got_by(place, day)), got)
                got += came

    def check_ends(self, setting, run, walked):
        """Ends that lie so near that the walk shows them."""
        for place in range(setting.many):
            begin, size = run.end_of(place)
            signs = walked.signs(place)
            if begin + 2 * size + 60 > len(signs):
                continue
            self.assertEqual(signs[begin:-size], signs[begin + size:])
            self.assertTrue(begin == 0 or signs[begin - 1] != signs[begin - 1 + size])
            for less in range(1, size):
                self.assertNotEqual(signs[begin:-less], signs[begin + less:])
            for bed in setting.beds_of(place):
                self.assertEqual(run.drift(bed), (sum(walked.moves[bed][begin:begin + size]), size))
            if place in setting.forks():
                self.check_wins(setting, run, place, walked.leads[place], begin)

    def check_wins(self, setting, run, place, leads, begin):
        if len(set(leads[begin:])) == 2:
            self.assertIsNone(run.wins(place))
            return
        others = [day for day, lead in enumerate(leads) if lead != leads[-1]]
        first = setting.beds_of(place)[1 - leads[-1]]
        self.assertEqual(run.wins(place), (first, max(others, default=-1) + 1))

    def check_ties(self, rng, setting, run, walked):
        days = rng.randint(0, len(walked.water[0]))
        found = [(day, place) for place in setting.forks() if len(set(setting.parts[place])) == 2
                 for day, tie in enumerate(walked.ties[place][:days]) if tie]
        self.assertEqual(ties_of(run, days), sorted(found))

    def test_two_to_five_places(self):
        self.check(101, 1500, 130, {}, {"apart": (0, 40)}, {"digs": 8, "turned": 8}, {"digs": 0, "turned": 0})

    def test_longer_words(self):
        self.check(102, 250, 199, {"word": (1, 7)}, {"word": (3, 12), "places": (2, 4)},
                   {"word": (1, 12), "stretches": (1, 10), "days": (1, 100)})

    def test_more_places(self):
        self.check(103, 250, 150, {"places": (5, 8), "digs": 12, "turned": 12},
                   {"places": (6, 8), "apart": (0, 1), "word": (1, 2)})

    def test_long_stretches_that_end(self):
        self.check(104, 60, 199, {"days": (100, 150), "stretches": (2, 3), "word": (1, 12)})
        for _, setting, run in self.settings(105, 40, {"days": (200, 600), "stretches": (2, 4), "word": (1, 9),
                                                       "near": 1500}):
            self.same(setting, run, Walked(setting, 2000))

    def test_depths_that_come_nearer(self):
        for _, setting, run in self.settings(106, 40, {"apart": (0, 500)}, {"apart": (0, 300), "places": (3, 6)}):
            self.same(setting, run, Walked(setting, 1500))


class TestFar(Walks):
    KINDS = ({"apart": (0, FAR)}, {"apart": (0, 10 ** 6), "days": (1, 10 ** 6)},
             {"apart": (0, FAR), "days": (1, FAR), "near": FAR}, {"days": (1, 10 ** 5), "near": 10 ** 5},
             {"apart": (0, 10 ** 4), "word": (1, 6), "digs": 9, "turned": 9, "near": 10 ** 4})

    def test_depths_and_waters_by_whole_rounds(self):
        for rng, setting, run in self.settings(111, 130, *self.KINDS):
            leaps = Leaps(setting)
            days = [10 ** 6, 10 ** 12, 10 ** 15] + [rng.randrange(10 ** size) for size in (3, 4, 5, 7, 9, 11, 13, 15)]
            for day in sorted(days):
                leaps.go_to(day)
                self.assertEqual([run.depth_on(bed, day) for bed in range(len(setting.beds))],
                                 [depth + by for depth, by in zip(leaps.depths, setting.dug(day))])
                self.assertEqual([fraction(run.got_by(place, day)) for place in range(setting.many)], leaps.got)
                if day < 10 ** 15:
                    self.same(setting, run, Walked(setting, min(20, 10 ** 15 - day), day, leaps.depths))

    def turns(self, setting, run):
        """Far days on which something becomes otherwise, as the program tells it."""
        days = [day for day, _, _ in setting.digs] + [day for day, _ in setting.turned]
        for place in range(setting.many):
            days.append(run.end_of(place)[0])
            days += [span[0] for span in run.water_of(place).spans]
        for place in setting.forks():
            days += [span[0] for span in run.leads(place).spans + run.ties(place).spans]
        return sorted({day for day in days if day < 10 ** 15 - 40})

    def test_from_each_turn_on_as_on_a_walk(self):
        for rng, setting, run in self.settings(112, 100, *self.KINDS):
            turns = self.turns(setting, run)
            for day in rng.sample(turns, min(8, len(turns))):
                begin = max(0, day - rng.randint(0, 12))
                depths = [run.depth_on(bed, begin) - by for bed, by in enumerate(setting.dug(begin))]
                walked = Walked(setting, 30, begin, depths)
                self.same(setting, run, walked)
                for place in range(setting.many):
                    self.assertEqual(fraction(run.got_by(place, begin + 30)),
                                     fraction(run.got_by(place, begin)) + sum(walked.water[place]))


class TestSettled(Walks):
    def others(self, rng, setting):
        """A run unlike in a depth, a dig, a rain, or a turned tie, and its setting."""
        other = plain_run.Setting(setting.many, setting.beds, setting.parts, setting.depths, setting.rains,
                                  setting.digs, setting.turned)
        kind = rng.randrange(4)
        if kind == 0:
            bed = rng.randrange(len(setting.beds))
            other.depths = tuple(depth + rng.randint(-3, 3) * (at == bed) for at, depth in enumerate(setting.depths))
        elif kind == 1:
            other.digs += ((rng.randrange(60), rng.randrange(len(setting.beds)), rng.choice((-2, -1, 1, 2))),)
        elif kind == 2:
            place = rng.randrange(setting.many)
            other.rains = list(setting.rains)
            other.rains[place] = [(rng.randint(1, 9), (rng.randint(0, 3),))] + setting.rains[place]
        else:
            tie = (rng.randrange(60), rng.choice(setting.forks()))
            other.turned = tuple(sorted({*setting.turned, tie}))
        try:
            return other, other.run()
        except TooLong:
            return None, None

    def test_against_the_walk(self):
        told = {True: 0, False: 0}
        days = 400
        for rng, setting, run in self.settings(121, 600, {}, {"apart": (0, 2), "stretches": (1, 1)}):
            if not setting.forks():
                continue
            other, other_run = self.others(rng, setting)
            if other is None:
                continue
            one, two = Walked(setting, days), Walked(other, days)
            for place in setting.forks():
                unlike = [day for day in range(days) if one.leads[place][day] != two.leads[place][day]]
                last = max(unlike, default=-1)
                day = settled(run, other_run, place)
                self.assertEqual(day, settled(other_run, run, place))
                if last < days - 130 and (day is None or day < days):
                    self.assertEqual(day, last + 1)
                elif last >= days - 60:
                    self.assertTrue(day is None or day >= days - 60)
                told[day is None] += 1
                self.assertEqual(settled(run, run, place), 0)
        self.assertGreater(told[True], 20)
        self.assertGreater(told[False], 300)
