"""Webs alike: the first day on which runs are apart (10.1), and the rains that part two webs (10.2)."""

import random
import time
import unittest
from fractions import Fraction
from itertools import product

import plain
import plain_run
from plain import always, both_rounds, course, fraction
from plain_run import Walked, share, web_of
from plain_web import PlainWeb, draw_large, draw_web, probes

from rillweb.alike import apart_on, apart_within
from rillweb.courses import on
from rillweb.errors import NoDay, NoDepths, NoPlace, TooLong
from rillweb.runs import Run
from rillweb.shares import Share
from rillweb.webs import step, water

FAR = 10 ** 12
LONG = 10 ** 30 + 7
DRY = always(0)


def lakes(many):
    """As many lakes, and nothing else."""
    return web_of(many, [], [()] * many)


def steady(depths, rain, *, marks=((0, 1), (0, 1)), parts=(1, 0), **kinds):
    """A run of a place with two beds to two lakes."""
    web = web_of(3, [(0, 1, *marks[0]), (0, 2, *marks[1])], [parts, (), ()])
    return Run(web, depths, rains=[rain, DRY, DRY], **kinds)


class Alike(unittest.TestCase):
    def refused(self, kind, call):
        with self.assertRaises(kind) as caught:
            call()
        return caught.exception


class TestApartOn(Alike):
    def test_the_least_day_of_all_pairs(self):
        rains = [course((at + 3, (1,)), (None, (2,))) for at in range(4)]
        one = Run(lakes(4), (), rains=rains)
        other = Run(lakes(2), (), rains=[always(1), always(2)])
        self.assertEqual(apart_on(one, other, pairs=[(3, 0)]), 6)
        self.assertEqual(apart_on(one, other, pairs=[(3, 0), (1, 0), (2, 0)]), 4)
        self.assertEqual(apart_on(one, other, pairs=[(3, 0), (1, 1)]), 0)
        self.assertEqual(apart_on(one, one, pairs=[(0, 3), (3, 2)]), 3)
        self.assertEqual(apart_on(one, one, pairs=[(3, 2)]), 5)

    def test_none(self):
        one = steady((0, 0), always(1, 2))
        self.assertIsNone(apart_on(one, one, pairs=[(0, 0), (1, 1), (2, 2)]))
        self.assertIsNone(apart_on(one, steady((5, 0), always(1, 2)), pairs=[(0, 0), (1, 1), (0, 1)]))
        self.assertIsNone(apart_on(one, steady((0, 5), always(9)), pairs=[]))
        self.assertIsNone(apart_on(one, steady((0, 5), always(1, 2)), pairs=[(1, 2), (2, 1)] * 100))
        self.assertEqual(apart_on(one, steady((0, 5), always(1, 2)), pairs=[(1, 2), (2, 1)] * 99 + [(1, 1)]), 0)

    def test_of_one_web_and_of_two(self):
        # The choice turns on day 3 in the one, and never in the other one.
        one = steady((0, 0), always(1), digs=((3, 1, 9),))
        other = steady((0, 0), always(1))
        self.assertEqual(apart_on(one, other, pairs=[(1, 1)]), 3)
        self.assertEqual(apart_on(one, other, pairs=[(2, 2)]), 3)
        self.assertIsNone(apart_on(one, other, pairs=[(0, 0)]))
        alone = Run(web_of(2, [(0, 1, 0, 1)], [(1,), ()]), (7,), rains=[always(1), DRY])
        self.assertEqual(apart_on(one, alone, pairs=[(1, 1)]), 3)
        self.assertIsNone(apart_on(other, alone, pairs=[(1, 1), (0, 0), (0, 1)]))

    def test_far_days(self):
        for far in (10 ** 9, 10 ** 10 + 1, 10 ** 12 - 1, 10 ** 13 + 7, 10 ** 15, 10 ** 15 + 1, 10 ** 17):
            one = Run(lakes(1), (), rains=[course((far, (1, 2, 1, 0)), (None, (5,)))])
            other = Run(lakes(1), (), rains=[course((far - 3, (1, 2, 1, 0)), (None, (1, 2, 1, 0)))])
            turned = Run(lakes(1), (), rains=[course((far, (1, 2, 1, 0)), (1, (9,)), (None, (1, 2, 1, 0)))])
            self.assertEqual(apart_on(one, turned, pairs=[(0, 0)]), far)
            # The word begins anew three days ahead, perhaps just where it would anyway.
            self.assertEqual(apart_on(other, turned, pairs=[(0, 0)]), far - (0, 3, 2, 3)[(far - 3) % 4])

    def test_a_choice_that_turns_on_a_far_day(self):
        # The bed ahead falls by one in two days; the other run is dug a day behind the turn of the one.
        marks = ((1, 9), (-1, 5))
        one = steady((FAR, 0), always(1, 2), marks=marks)
        other = steady((FAR + 0, -1), always(1, 2), marks=marks)
        day = one.wins(0)[1]
        self.assertGreater(day, FAR)
        self.assertEqual(apart_on(one, other, pairs=[(0, 0), (2, 2)]), day)
        self.assertEqual(apart_on(other, one, pairs=[(1, 1)]), day)
        far = steady((0, 0), course((10 ** 14, (9,)), (None, (2,) * 11 + (1,))), marks=marks)
        behind = steady((1, 0), course((10 ** 14, (9,)), (None, (2,) * 11 + (1,))), marks=marks)
        self.assertGreater(far.wins(0)[1], 10 ** 15)
        self.assertEqual(apart_on(far, behind, pairs=[(1, 1), (2, 2)]), far.wins(0)[1])

    def test_words_that_are_alike_for_as_long_as_can_be(self):
        # Rounds of twelve and eleven can be alike for twenty-one days, and not for twenty-two.
        many = both_rounds(12, 11)
        one = Run(lakes(1), (), rains=[course((None, many[:12]))])
        other = Run(lakes(1), (), rains=[course((None, many[:11]))])
        day = apart_on(one, other, pairs=[(0, 0)])
        self.assertEqual(day, len(many))
        self.assertEqual([on(one.water_of(0), late) == on(other.water_of(0), late) for late in range(day + 1)],
                         [True] * day + [False])

    def test_against_the_walk(self):
        rng = random.Random(1001)
        found = {}
        for number in range(900):
            setting = plain_run.draw(rng, places=(2, 4), turned=0, digs=1)
            other = setting if rng.random() < 0.5 else plain_run.draw(rng, places=(2, 4), turned=0, digs=0)
            digs = tuple((rng.randrange(60), rng.randrange(len(other.beds)), rng.choice((-2, 1)))
                         for _ in range(rng.randint(0, 2))) if other.beds else ()
            other = plain_run.Setting(other.many, other.beds, other.parts, other.depths, other.rains, digs)
            try:
                mine, theirs = setting.run(), other.run()
            except TooLong:
                continue
            pairs = [(rng.randrange(setting.many), rng.randrange(other.many)) for _ in range(rng.randint(0, 3))]
            if other.beds == setting.beds:
                pairs += [(place, place) for place in range(setting.many) if rng.random() < 0.5]
            ends = [run.end_of(place) for run in (mine, theirs) for place in range(run.web.many)]
            days = max(begin for begin, _ in ends) + 2 * max(size for _, size in ends) + 2
            walked, beside = Walked(setting, days), Walked(other, days)
            expected = [day for day in range(days) for here, there in pairs
                        if walked.water[here][day] != beside.water[there][day]]
            told = apart_on(mine, theirs, pairs=pairs)
            self.assertEqual(told, min(expected, default=None), number)
            self.assertEqual(apart_on(theirs, mine, pairs=[(there, here) for here, there in pairs]), told)
            kind = "none" if told is None else "first" if told == 0 else "later"
            found[kind] = found.get(kind, 0) + 1
        self.assertGreater(min(found.values()), 30, found)

    def test_no_pairs(self):
        one = steady((0, 0), always(1))
        other = Run(lakes(2), (), rains=[DRY, DRY])
        lists = [[thing] for thing in plain.odd_things() if thing != (0, 1)]
        lists += [[(0, thing)] for thing in plain.odd_things()] + [[(thing, 0)] for thing in plain.odd_things()]
        lists += [((0, 0),), [[0, 0]], [(0, 0, 0)], [(0,)], [(0, 0), (3, 0)], [(0, 2)], [(-1, 0)], [(0, -1)],
                  [(0, 0), None], {0: 0}, "00", [(True, 0)], [(0, False)], [(Share(0), 0)]]
        for thing in [thing for thing in plain.odd_things() if thing != []] + lists:
            self.assertIs(self.refused(NoPlace, lambda: apart_on(one, other, pairs=thing)).place, thing)
        self.assertIs(self.refused(NoPlace, lambda: apart_on(other, one, pairs=lists[-5])).place, lists[-5])
        with self.assertRaises(TypeError):
            apart_on(one, other, [])

    def test_nothing_is_changed(self):
        one, other = steady((0, 0), always(1)), steady((0, 3), always(1))
        pairs = [(2, 2), (1, 1), (0, 0), (2, 2)]
        for _ in range(3):
            self.assertEqual(apart_on(one, other, pairs=pairs), 0)
        self.assertEqual(pairs, [(2, 2), (1, 1), (0, 0), (2, 2)])

    def test_time_of_the_largest(self):
        rng = random.Random(1002)
        rains = [course(*[(rng.randint(1, 10 ** 9), [rng.randint(0, 1) for _ in range(12)]) for _ in range(9)],
                        (None, range(12))) for _ in range(8)]
        one, other = Run(lakes(8), (), rains=rains), Run(lakes(8), (), rains=rains)
        begun = time.perf_counter()
        pairs = [(here, there) for here in range(8) for there in range(8)] * 3
        self.assertEqual(apart_on(one, other, pairs=[(place, place) for place in range(8)] * 25), None)
        self.assertIsNotNone(apart_on(one, other, pairs=pairs))
        self.assertLess(time.perf_counter() - begun, 5)


class PlainTwins:
    """Two plain webs that are walked side by side."""

    def __init__(self, one, other, places, pairs):
        self.webs = (one, other)
        self.places = places
        self.pairs = pairs
        self.marks = probes(sorted({mark for web, place in zip(self.webs, places) for mark in web.marks(place)}))

    def are_apart(self, both, amount):
        """Whether some pair has unlike water."""
        mine, theirs = [web.day(web.leads(depths), web.alone(place, amount))[0]
                        for web, depths, place in zip(self.webs, both, self.places)]
        return any(mine[here] != theirs[there] for here, there in self.pairs)

    def step(self, both, amount):
        """Both depths of the next morning."""
        return tuple(web.step(depths, web.alone(place, amount))
                     for web, depths, place in zip(self.webs, both, self.places))

    def days_to_part(self, both, days):
        """On how many days, up to so many, some amounts part both; None where none do."""
        mornings = {both}
        for day in range(1, days + 1):
            if any(self.are_apart(each, amount) for each in mornings for amount in self.marks):
                return day
            if day < days:
                mornings = {self.step(each, amount) for each in mornings for amount in self.marks}
        return None


class TestApartWithin(Alike):
    def parted(self, one, depths, other, others, places, pairs, amounts):
        """The told amounts part both webs on the last of their days, and on none ahead."""
        self.assertIsInstance(amounts, list)
        for late, amount in enumerate(amounts):
            self.assertIsInstance(amount, Share)
            self.assertGreaterEqual(amount.top, 0)
            rains = [tuple(amount if at == place else Share(0) for at in range(web.many))
                     for web, place in zip((one, other), places)]
            mine, theirs = water(one, depths, rain=rains[0]), water(other, others, rain=rains[1])
            self.assertEqual(any(mine[here] != theirs[there] for here, there in pairs), late == len(amounts) - 1)
            depths, others = step(one, depths, rain=rains[0]), step(other, others, rain=rains[1])

    def check(self, one, depths, other, others, places, pairs, days):
        """What is told is as long as a plain reckoning through all amounts tells, and parts."""
        told = apart_within(one.web(), depths, other.web(), others, places=places, pairs=pairs, days=days)
        expected = PlainTwins(one, other, places, pairs).days_to_part((depths, others), days)
        self.assertEqual(told if told is None else len(told), expected)
        if told is not None:
            self.parted(one.web(), depths, other.web(), others, places, pairs, told)
        return expected

    def nearly(self, rng, one, depths):
        """A web, and depths, that are all but those handed in."""
        beds, parts, others = list(one.beds), list(one.parts), list(depths)
        for _ in range(rng.randint(0, 3)):
            if beds:
                bed = rng.randrange(len(beds))
                start, end, low, high = beds[bed]
                kind = rng.randrange(4)
                if kind == 0:
                    others[bed] += rng.choice((-1, 1))
                elif kind == 1:
                    low -= Fraction(rng.randint(0, 3), 2)
                elif kind == 2:
                    high += Fraction(rng.randint(0, 3), 2)
                else:
                    many = rng.randint(1, 2)
                    parts[start] = tuple(min(9, part * many) for part in parts[start])
                beds[bed] = (start, end, low, high)
        return PlainWeb(one.many, beds, parts), tuple(others)

    def test_against_all_amounts(self):
        rng = random.Random(1011)
        counts = {}
        while sum(counts.values()) < 2500:
            days = rng.choice((0, 1, 2, 2, 2, 3, 3))
            one = draw_web(rng, places=(2, 3) if days == 3 else (2, 4), values=rng.choice(((0, 1, 1, 2), (0, 1, 2, 5, 7))))
            if len(set(one.parts[0])) < 2 and rng.random() < 0.9:
                continue
            depths = tuple(rng.randint(-1, 1) for _ in one.beds)
            if rng.random() < 0.8:
                other, others = self.nearly(rng, one, depths)
                places = (0, 0)
                pairs = [(place, place) for place in range(one.many)]
            else:
                other = draw_web(rng, places=(2, 3))
                others = tuple(rng.randint(-1, 1) for _ in other.beds)
                places = (rng.randrange(one.many), rng.randrange(other.many))
                pairs = [(rng.randrange(one.many), rng.randrange(other.many)) for _ in range(rng.randint(0, 2))]
            kind = (days, self.check(one, depths, other, others, places, pairs, days))
            counts[kind] = counts.get(kind, 0) + 1
        for kind in ((0, None), (1, None), (1, 1), (2, 1), (2, 2), (2, None), (3, 1), (3, 2), (3, 3), (3, None)):
            self.assertGreater(counts.get(kind, 0), 3, counts)

    def fork(self, first, second, *, parts=(1, 2)):
        """A place with two beds to two lakes."""
        return PlainWeb(3, [(0, 1, *first), (0, 2, *second)], [parts, (), ()])

    def only(self, one, other, depths=((1, 0), (1, 0))):
        """The first amount that parts two forks that are alike but for their marks, on the second day."""
        one, other = self.fork(*one), self.fork(*other)
        self.assertEqual(self.check(one, depths[0], other, depths[1], (0, 0), [(1, 1)], 3), 2)
        self.check(one, depths[0], other, depths[1], (0, 0), [(1, 1), (2, 2)], 2)
        self.assertIsNone(self.check(one, depths[0], other, depths[1], (0, 0), [(0, 0)], 3))
        self.assertIsNone(self.check(one, depths[0], other, depths[1], (0, 0), [(1, 1)], 1))
        return apart_within(one.web(), depths[0], other.web(), depths[1], places=(0, 0), pairs=[(1, 1)], days=2)[0]

    def test_one_amount_alone(self):
        # Just by one amount bed 0 bears its low and bed 1 its high: so bed 1 is first on the next day.
        for amount in (Fraction(1234567891, 7), Fraction(3), Fraction(10 ** 40 + 1, 10 ** 10)):
            low, high = amount / 3, amount * 2 / 3
            one = ((low, 10 ** 50), (-1, high))
            other = ((low - Fraction(1, 10 ** 20), 10 ** 50), (-1, high))
            self.assertEqual(self.only(one, other), share(amount))
            self.assertEqual(self.only(other, one), share(amount))

    def test_an_open_stretch_between_two_marks(self):
        # Between two amounts alone both beds stay in the one: up to the low one bed 1 falls, from the high one on bed 0
        # rises, so that they are level.
        low, high = Fraction(5, 3), Fraction(5, 3) + Fraction(1, 10 ** 9)
        one = ((-1, high * 2 / 3), (low / 3, 10 ** 40))
        other = ((-2, -1), (-1, 10 ** 40))
        amount = fraction(self.only(one, other, depths=((-1, 0), (-1, 0))))
        self.assertTrue(low < amount < high, amount)

    def test_beyond_all_marks_and_the_amount_0(self):
        never = (-1, 10 ** 40)
        # By amounts of 10 ** 30 and more bed 1 rises in the one.
        amount = self.only((never, (-1, 10 ** 30)), (never, never), depths=((0, 0), (0, 0)))
        self.assertGreaterEqual(2 * fraction(amount), 10 ** 30)
        # By the amount 0 alone bed 0 falls in the one.
        self.assertEqual(self.only(((0, 10 ** 40), never), (never, never), depths=((0, 0), (0, 0))), Share(0))

    def test_three_days(self):
        # Each day on which 5 falls makes bed 0 one step shallower in the one.
        one = PlainWeb(3, [(0, 1, 5, 9), (0, 2, -1, 99)], [(1, 0), (), ()])
        other = PlainWeb(3, [(0, 1, -1, 99), (0, 2, -1, 99)], [(1, 0), (), ()])
        for deep in range(4):
            for days in range(4):
                told = self.check(one, (deep, 0), other, (deep, 0), (0, 0), [(1, 1)], days)
                self.assertEqual(told, deep + 2 if deep + 2 <= days else None)

    def test_alike_but_for_a_number_in_both_depths(self):
        rng = random.Random(1012)
        for _ in range(60):
            one = draw_web(rng, places=(2, 5), most=8)
            depths = tuple(rng.randint(-1, 1) for _ in one.beds)
            by = [rng.choice((-LONG, 1, LONG)) for _ in range(one.many)]
            others = tuple(depth + by[bed[0]] for depth, bed in zip(depths, one.beds))
            pairs = [(place, place) for place in range(one.many)]
            self.assertIsNone(apart_within(one.web(), depths, one.web(), others, places=(0, 0), pairs=pairs, days=3))

    def test_parts_written_otherwise(self):
        one = PlainWeb(3, [(0, 1, 1, 2), (0, 2, 1, 2)], [(1, 2), (), ()])
        other = PlainWeb(3, [(0, 1, 1, 2), (0, 2, 1, 2)], [(3, 6), (), ()])
        pairs = [(1, 1), (2, 2)]
        self.assertIsNone(self.check(one, (0, 0), other, (0, 0), (0, 0), pairs, 3))
        other = PlainWeb(3, other.beds, [(3, 5), (), ()])
        self.assertEqual(self.check(one, (0, 0), other, (0, 0), (0, 0), pairs, 3), 1)

    def test_places_from_which_nothing_leads_there(self):
        one = PlainWeb(4, [(0, 2, 1, 2), (1, 2, 1, 2), (1, 3, 1, 2)], [(1,), (1, 2), (), ()])
        self.assertIsNone(self.check(one, (0, 0, 0), one, (0, 5, 0), (2, 3), [(0, 0), (1, 1)], 3))
        self.assertIsNone(self.check(one, (0, 0, 0), one, (0, 0, 5), (0, 0), [(2, 2), (3, 3)], 3))
        self.assertEqual(self.check(one, (0, 0, 0), one, (0, 0, 5), (1, 1), [(2, 2)], 3), 1)
        self.assertEqual(self.check(one, (0, 0, 0), one, (0, 0, 5), (0, 1), [(0, 1), (2, 2)], 3), 1)
        self.assertIsNone(self.check(one, (0, 0, 0), one, (0, 0, 5), (0, 1), [(0, 1), (3, 0)], 3))
        lake = PlainWeb(1, [], [()])
        self.assertIsNone(self.check(lake, (), lake, (), (0, 0), [(0, 0)], 3))
        self.assertIsNone(self.check(one, (0, 0, 0), lake, (), (0, 0), [(2, 0)], 3))
        self.assertEqual(self.check(one, (0, 0, 0), lake, (), (0, 0), [(2, 0), (1, 0)], 3), 1)
        self.assertIsNone(self.check(one, (0, 0, 0), lake, (), (0, 0), [], 3))

    def test_large_webs(self):
        rng = random.Random(1013)
        counts = {}
        begun = 0
        for _ in range(150):
            one = draw_large(rng, *rng.choice(((5, 2), (6, 0))))
            depths = tuple(rng.randint(-1, 1) for _ in one.beds)
            other, others = self.nearly(rng, one, depths)
            pairs = [(place, place) for place in range(8)]
            now = time.perf_counter()
            for days in (2, 3):
                told = apart_within(one.web(), depths, other.web(), others, places=(0, 0), pairs=pairs, days=days)
                if told is not None:
                    self.parted(one.web(), depths, other.web(), others, (0, 0), pairs, told)
            begun += time.perf_counter() - now
            kind = told and len(told)
            counts[kind] = counts.get(kind, 0) + 1
        self.assertGreater(min(counts.get(kind, 0) for kind in (1, 2, 3, None)), 3, counts)
        self.assertLess(begun, 40)

    def test_large_webs_against_all_amounts(self):
        rng = random.Random(1014)
        found = []
        for _ in range(60):
            one = draw_large(rng, *rng.choice(((3, 2), (4, 1))))
            depths = tuple(rng.randint(0, 1) for _ in one.beds)
            other, others = self.nearly(rng, one, depths)
            pairs = [(place, place) for place in range(8)]
            found.append(self.check(one, depths, other, others, (0, 0), pairs, 2))
        self.assertIn(None, found)
        self.assertIn(2, found)

    def test_thousands_of_small_ones(self):
        rng = random.Random(1015)
        asked = []
        for _ in range(2000):
            one = draw_web(rng)
            depths = tuple(rng.randint(-1, 1) for _ in one.beds)
            other, others = self.nearly(rng, one, depths)
            asked.append((one.web(), depths, other.web(), others))
        begun = time.perf_counter()
        for one, depths, other, others in asked:
            pairs = [(place, place) for place in range(one.many)]
            apart_within(one, depths, other, others, places=(0, 0), pairs=pairs, days=3)
        self.assertLess(time.perf_counter() - begun, 30)

    def test_refused_in_their_order(self):
        one, other = self.fork((0, 1), (0, 1)).web(), lakes(2)
        given = [("depths", NoDepths, (0, 0)), ("others", NoDepths, ()), ("places", NoPlace, (0, 0)),
                 ("pairs", NoPlace, [(0, 0)]), ("days", NoDay, 1)]
        for at, (_, kind, _) in enumerate(given):
            for amiss in ([None], {}, True):
                fine = {name: thing if here < at else amiss for here, (name, _, thing) in enumerate(given)}
                depths, others = fine.pop("depths"), fine.pop("others")
                error = self.refused(kind, lambda: apart_within(one, depths, other, others, **fine))
                if kind is NoPlace:
                    self.assertIs(error.place, amiss)

    def asked(self, *, depths=(0, 0), others=(), places=(0, 0), pairs=(), days=1):
        one, other = self.fork((0, 1), (0, 1)).web(), lakes(2)
        pairs = [] if pairs == () else pairs
        return apart_within(one, depths, other, others, places=places, pairs=pairs, days=days)

    def test_no_depths(self):
        for thing in plain.odd_things() + [(0,), [0, 0], (0, 0, 0), (True, 0)]:
            if thing != (0, 1):
                self.refused(NoDepths, lambda: self.asked(depths=thing))
            if thing != ():
                self.refused(NoDepths, lambda: self.asked(others=thing))
        self.assertIsNone(self.asked(depths=(LONG, -LONG)))

    def test_no_places_and_no_pairs(self):
        for thing in plain.odd_things() + [[0, 0], (0,), (0, 0, 0), (3, 0), (0, 2), (-1, 0), (0, True), (0, [])]:
            if thing != (0, 1):
                self.assertIs(self.refused(NoPlace, lambda: self.asked(places=thing)).place, thing)
            if thing not in ((), []):
                self.assertIs(self.refused(NoPlace, lambda: self.asked(pairs=thing)).place, thing)
            listed = [(0, 0), thing]
            if thing != (0, 1):
                self.assertIs(self.refused(NoPlace, lambda: self.asked(pairs=listed)).place, listed)
        # Of either side: place 2 is one of the one web alone.
        self.assertEqual(self.asked(places=(2, 0), pairs=[(2, 1)]), [Share(1)])
        self.refused(NoPlace, lambda: self.asked(places=(0, 2), pairs=[(2, 1)]))
        self.refused(NoPlace, lambda: self.asked(pairs=[(1, 2)]))

    def test_no_numbers_of_days(self):
        for thing in plain.odd_things() + [-1, 4, FAR, Share(1)]:
            self.refused(NoDay, lambda: self.asked(days=thing))
        self.assertIsNone(self.asked(pairs=[(0, 1)], days=0))
        self.assertEqual(self.asked(pairs=[(0, 1)], days=3), [Share(1)])

    def test_a_new_list_each_time_and_nothing_changed(self):
        one = PlainWeb(3, [(0, 1, 5, 9), (0, 2, -1, 99)], [(1, 0), (), ()]).web()
        other = PlainWeb(3, [(0, 1, -1, 99), (0, 2, -1, 99)], [(1, 0), (), ()]).web()
        pairs, kept = [(1, 1)], []
        for _ in range(3):
            told = apart_within(one, (0, 0), other, (0, 0), places=(0, 0), pairs=pairs, days=3)
            kept.append(list(told))
            told.clear()
        self.assertEqual(kept, [kept[0]] * 3)
        self.assertEqual((len(kept[0]), pairs), (2, [(1, 1)]))
        with self.assertRaises(TypeError):
            apart_within(one, (0, 0), other, (0, 0), (0, 0), pairs, 3)


if __name__ == "__main__":
    unittest.main()
