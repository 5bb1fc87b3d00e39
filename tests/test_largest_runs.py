"""The largest runs, and thousands of small ones: what they take (see the note on time of the issue)."""

import random
import time
import unittest
from fractions import Fraction

import plain_run
from plain import always, course, fraction
from plain_run import Leaps, Setting, Walked, web_of

from rillweb.chances import matters, ties_of, turn
from rillweb.courses import added, end, on, sum_to
from rillweb.errors import NoTie, TooLong
from rillweb.runs import Run, settled

FAR = 10 ** 12
DRY = always(0)


class Timed(unittest.TestCase):
    def setUp(self):
        self.begun = time.perf_counter()

    def tearDown(self):
        # Far more than it takes; walking through long stretches would take for ever.
        self.assertLess(time.perf_counter() - self.begun, 60)


class TestLargest(Timed):
    def large(self, rng, days, lengths, apart):
        """Eight places with ten stretches of up to twelve amounts each, twenty digs, twenty turned ties."""
        turns = [rng.randint(1, days) for _ in range(9)]
        rains = []
        for _ in range(8):
            words = [tuple(rng.randint(0, 9) for _ in range(rng.choice(lengths))) for _ in range(10)]
            rains.append([*zip(turns, words[:9]), (None, words[9])])
        beds, parts = [], []
        for place in range(7):
            many = 2 if place < 5 else 1
            for _ in range(many):
                low = Fraction(rng.randint(-2, 20), rng.choice((1, 2, 3)))
                beds.append((place, rng.randint(place + 1, 7), low, low + Fraction(rng.randint(1, 20), 4)))
            parts.append(tuple(rng.randint(1, 9) for _ in range(many)))
        depths = tuple(rng.randint(-apart, apart) for _ in beds)
        digs = tuple((rng.randint(0, min(FAR, 9 * days)), rng.randrange(12),
                      rng.choice((-1, 1)) * rng.randint(1, apart)) for _ in range(20))
        turned = set()
        while len(turned) < 20:
            turned.add((rng.randint(0, 50), rng.randrange(5)))
        return Setting(8, beds, [*parts, ()], depths, rains, digs, tuple(turned))

    def ask(self, run, setting):
        """Ask all there is."""
        for place in range(8):
            run.water_of(place), run.end_of(place), run.got_by(place, 10 ** 15)
        for bed in range(len(setting.beds)):
            run.borne_by(bed), run.moves(bed), run.drift(bed), run.depth_on(bed, 10 ** 15)
        for place in setting.forks():
            run.leads(place), run.ties(place), run.wins(place), settled(run, run, place)
        ties_of(run, 200)

    def test_eight_places_against_the_walk(self):
        rng = random.Random(151)
        made = 0
        for days, lengths, apart in ((200, (12, 6, 4), 9), (10 ** 4, (1, 2, 3, 4, 6, 12), 10 ** 4),
                                     (10 ** 9, (12,), FAR), (FAR, (5, 10), FAR), (FAR, (12, 6, 4), 10 ** 6)):
            for _ in range(4):
                setting = self.large(rng, days, lengths, apart)
                try:
                    begun = time.perf_counter()
                    run = setting.run()
                    self.ask(run, setting)
                    self.assertLess(time.perf_counter() - begun, 5)
                except TooLong:
                    continue
                made += 1
                walked = Walked(setting, 60)
                for place in range(8):
                    self.assertEqual([fraction(on(run.water_of(place), day)) for day in range(60)], walked.water[place])
                turns = sorted({span[0] for place in range(8) for span in run.water_of(place).spans})
                for day in rng.sample(turns, min(3, len(turns))):
                    self.from_day(run, setting, max(0, day - 9))
        self.assertGreater(made, 12)

    def from_day(self, run, setting, day):
        """From a day on all is as on a walk from there."""
        if day > 10 ** 15 - 30:
            return
        depths = [run.depth_on(bed, day) - by for bed, by in enumerate(setting.dug(day))]
        walked = Walked(setting, 25, day, depths)
        for bed in range(len(setting.beds)):
            self.assertEqual([run.depth_on(bed, day + late) for late in range(25)], walked.depth[bed])
            self.assertEqual([fraction(on(run.borne_by(bed), day + late)) for late in range(25)], walked.borne[bed])

    def test_rounds_of_sixty_at_each_place(self):
        # All rains by rounds of twelve or five, so by rounds of sixty together, through ten stretches.
        rng = random.Random(152)
        for days in (10 ** 4, 10 ** 9):
            for _ in range(6):
                setting = self.large(rng, days, (12,), FAR)
                setting.rains[0] = [(many, word[:5]) for many, word in setting.rains[0]]
                begun = time.perf_counter()
                try:
                    self.ask(setting.run(), setting)
                except TooLong:
                    pass
                self.assertLess(time.perf_counter() - begun, 10)

    def test_amounts_of_fifty_figures(self):
        rng = random.Random(153)
        setting = self.large(rng, 10 ** 6, (12,), FAR)
        setting.rains = [[(days, tuple(Fraction(rng.randint(0, 10 ** 50), rng.randint(1, 10 ** 50)) for _ in word))
                          for days, word in stretches] for stretches in setting.rains]
        run = setting.run()
        leaps = Leaps(setting)
        leaps.go_to(10 ** 5)
        self.assertEqual([fraction(run.got_by(place, 10 ** 5)) for place in range(8)], leaps.got)

    def test_turning_and_what_matters(self):
        rng = random.Random(154)
        turned = 0
        for _ in range(30):
            setting = self.large(rng, 10 ** 9, (1, 2, 4), 2)
            setting.turned = setting.turned[:10]
            try:
                run = setting.run()
                for day, place in ties_of(run, 200)[:5]:
                    matters(run, day, place)
                    turned += 1
            except TooLong:
                continue
            with self.assertRaises(NoTie):
                turn(run, 10 ** 12 + 1, 0)
        self.assertGreater(turned, 20)

    def test_a_choice_between_two_that_come_nearer_all_the_time(self):
        # A gap of 10 ** 12 and words of twelve amounts: by one in twelve days, through ten stretches.
        web = web_of(3, [(0, 1, 1, 9), (0, 2, -1, 9)], [(1, 0), (), ()])
        word = (2,) * 11 + (1,)
        rain = course(*[(FAR + at, word) for at in range(9)], (None, word))
        run = Run(web, (FAR, 0), rains=[rain, DRY, DRY])
        self.assertEqual(run.wins(0)[0], 1)
        gap = [run.depth_on(0, day) - run.depth_on(1, day) for day in (0, 12 * 10 ** 10, 8 * FAR, 10 ** 13)]
        self.assertEqual(gap[:2], [FAR, FAR - 10 ** 10])
        self.assertEqual(end(run.leads(0)), (run.wins(0)[1], 1))
        self.assertEqual(added([run.borne_by(0), run.borne_by(1)]), rain)


class TestMany(Timed):
    def test_thousands_of_small_runs(self):
        rng = random.Random(155)
        settings = [plain_run.draw(rng, apart=rng.choice(((0, 6), (0, FAR))), days=rng.choice(((1, 10), (1, 10 ** 9))))
                    for _ in range(1500)]
        begun = time.perf_counter()
        made = 0
        for setting in settings:
            try:
                run = setting.run()
            except TooLong:
                continue
            made += 1
            for _ in range(10):
                day = rng.randrange(10 ** 15)
                for place in range(setting.many):
                    run.got_by(place, day), on(run.water_of(place), day), sum_to(run.water_of(place), day)
                    run.end_of(place), end(run.water_of(place))
                for bed in range(len(setting.beds)):
                    run.depth_on(bed, day), run.drift(bed), on(run.moves(bed), day)
                for place in setting.forks():
                    run.wins(place), on(run.leads(place), day), on(run.ties(place), day)
        self.assertGreater(made, 1300)
        # Some thousandths of a second for each; here ten times as much is let go.
        self.assertLess(time.perf_counter() - begun, 40)
