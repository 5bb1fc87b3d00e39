"""Webs (3.1), and the waters, what is borne and the steps of one day (3.2, 3.3)."""

import random
import unittest
from fractions import Fraction

import plain
import plain_run
from plain import fraction
from plain_run import Setting, Walked, share, shares, web_of

from rillweb.errors import NoDepths, NoRain, NoWeb, RillError
from rillweb.shares import Share
from rillweb.webs import Web, borne, step, water

LOW, HIGH = Share(0), Share(1)


def bed(start, end, low=LOW, high=HIGH):
    """A bed with some marks."""
    return (start, end, low, high)


def chain(many):
    """As many places one below the other, a bed from each to the next one."""
    return many, [bed(place, place + 1) for place in range(many - 1)], [(1,)] * (many - 1) + [()]


def twelve():
    """A web of twelve beds."""
    beds = [bed(place, end) for place in range(5) for end in (place + 1, 7)] + [bed(5, 6), bed(6, 7)]
    return 8, beds, [(1, 2)] * 5 + [(1,), (9,), ()]


class Webs(unittest.TestCase):
    def refuse(self, part, many, beds, parts):
        with self.assertRaises(NoWeb) as caught:
            Web(many, beds, parts)
        self.assertEqual(caught.exception.part, part)
        self.assertIsInstance(caught.exception, RillError)


class TestMaking(Webs):
    def test_values(self):
        beds = [bed(0, 1), bed(0, 2), bed(1, 2, Share(-3), Share(-1, 2))]
        web = Web(3, beds, [(0, 9), (4,), ()])
        self.assertEqual((web.many, web.beds, web.parts), (3, beds, [(0, 9), (4,), ()]))
        self.assertIsInstance(web.beds, list)
        self.assertIsInstance(web.parts, list)

    def test_one_and_eight_places_and_none_and_nine(self):
        self.assertEqual(Web(1, [], [()]).beds, [])
        self.assertEqual(Web(8, [], [()] * 8).many, 8)
        Web(*chain(8))
        for many in (0, 9, -1, 10 ** 12):
            self.refuse("many", many, [], [()] * max(0, min(many, 20)))

    def test_many_of_any_kind(self):
        for thing in plain.odd_things() + [Share(3), "3", (3,), [3]]:
            self.refuse("many", thing, [], [()])

    def test_twelve_and_thirteen_beds(self):
        many, beds, parts = twelve()
        self.assertEqual(len(Web(many, beds, parts).beds), 12)
        self.refuse("beds", many, beds[:-1] + [bed(5, 7)] + beds[-1:], parts[:5] + [(1, 1), (9,), ()])

    def test_two_and_three_beds_of_a_place(self):
        Web(4, [bed(0, 1), bed(0, 2)], [(1, 1), (), (), ()])
        self.refuse("beds", 4, [bed(0, 1), bed(0, 2), bed(0, 3)], [(1, 1, 1), (), (), ()])
        self.refuse("beds", 3, [bed(0, 1)] + [bed(1, 2)] * 3, [(1,), (1, 1, 1), ()])

    def test_both_beds_to_one_place(self):
        web = Web(2, [bed(0, 1), bed(0, 1)], [(1, 1), ()])
        self.assertEqual(web.beds, [bed(0, 1)] * 2)

    def test_beds_level_or_up_or_to_nowhere(self):
        for start, end in ((0, 0), (1, 0), (2, 1), (1, 1), (0, 3), (-1, 1), (3, 4), (0, -1), (0, 10 ** 9)):
            self.refuse("beds", 3, [bed(start, end)], [(1,), (), ()])

    def test_beds_out_of_order(self):
        self.refuse("beds", 3, [bed(1, 2), bed(0, 1)], [(1,), (1,), ()])
        self.refuse("beds", 3, [bed(0, 1), bed(1, 2), bed(0, 2)], [(1, 1), (1,), ()])
        # The ends need no order.
        Web(3, [bed(0, 2), bed(0, 1), bed(1, 2)], [(1, 1), (1,), ()])

    def test_low_and_high(self):
        for low, high in ((1, 1), (2, 1), (0, -1), (Fraction(1, 2), Fraction(1, 3))):
            self.refuse("beds", 2, [bed(0, 1, share(low), share(high))], [(1,), ()])
        for low, high in ((-2, -1), (-1, 0), (Fraction(1, 3), Fraction(1, 2)), (-10 ** 40, 10 ** 40)):
            web = Web(2, [bed(0, 1, share(low), share(high))], [(1,), ()])
            self.assertEqual(web.beds, [(0, 1, share(low), share(high))])

    def test_beds_of_any_kind(self):
        for thing in plain.odd_things() + [0, (bed(0, 1),), {0: bed(0, 1)}, Share(1)]:
            if thing != []:
                self.refuse("beds", 2, thing, [(1,), ()])
            self.refuse("beds", 2, [thing], [(1,), ()])
            self.refuse("beds", 2, [bed(0, 1), thing], [(1,), ()])
            if not is_number(thing):
                self.refuse("beds", 3, [(thing, 1, LOW, HIGH)], [(1,), (), ()])
                self.refuse("beds", 3, [(0, thing, LOW, HIGH)], [(1,), (), ()])
            if not isinstance(thing, Share):
                self.refuse("beds", 3, [(0, 1, thing, HIGH)], [(1,), (), ()])
                self.refuse("beds", 3, [(0, 1, LOW, thing)], [(1,), (), ()])
        for thing in (list(bed(0, 1)), bed(0, 1) + (LOW,), bed(0, 1)[:3], (), (0,)):
            self.refuse("beds", 2, [thing], [(1,), ()])

    def test_parts(self):
        Web(3, [bed(0, 1), bed(0, 2)], [(0, 9), (), ()])
        Web(3, [bed(0, 1), bed(0, 2)], [(9, 0), (), ()])
        Web(2, [bed(0, 1)], [(9,), ()])
        two = [bed(0, 1), bed(0, 2)]
        for parts in ((0, 0), (10, 1), (1, 10), (-1, 2), (2, -1), (1,), (1, 1, 1), (), (True, 1), (1, False),
                      [1, 1], (1, "1"), (1, None), (1, Share(1))):
            self.refuse("parts", 3, two, [parts, (), ()])
        self.refuse("parts", 2, [bed(0, 1)], [(0,), ()])
        self.refuse("parts", 2, [bed(0, 1)], [(1,), (1,)])
        self.refuse("parts", 2, [bed(0, 1)], [(1,), (0,)])
        self.refuse("parts", 2, [bed(0, 1)], [(), ()])

    def test_too_many_and_too_few_parts(self):
        self.refuse("parts", 2, [bed(0, 1)], [(1,)])
        self.refuse("parts", 2, [bed(0, 1)], [(1,), (), ()])
        self.refuse("parts", 1, [], [])
        self.refuse("parts", 2, [bed(0, 1)], ((1,), ()))

    def test_parts_of_any_kind(self):
        for thing in plain.odd_things() + [0, Share(1), {0: (1,), 1: ()}]:
            self.refuse("parts", 2, [bed(0, 1)], thing)
            if thing != (1,):
                self.refuse("parts", 2, [bed(0, 1)], [thing, ()])
            if thing != ():
                self.refuse("parts", 2, [bed(0, 1)], [(1,), thing])
            if thing != 0:
                self.refuse("parts", 2, [bed(0, 1)], [(thing,), ()])

    def test_the_first_part_that_is_none(self):
        beds, parts = [bed(0, 1)], [(1,), ()]
        for amiss_many in (0, 9, True, None, "2", [], {}):
            for some_beds in (beds, [bed(1, 0)], None, [[]], {}):
                for some_parts in (parts, [(0,), ()], None, [{}], []):
                    self.refuse("many", amiss_many, some_beds, some_parts)
        for some_beds in ([bed(1, 0)], None, {}, [[]], [{}], "beds", (bed(0, 1),)):
            for some_parts in (parts, [(0,), ()], None, [{}], []):
                self.refuse("beds", 2, some_beds, some_parts)

    def test_the_lists_stay_and_changed_behind_change_nothing(self):
        beds, parts = [bed(0, 1), bed(1, 2)], [(1,), (2,), ()]
        web = Web(3, beds, parts)
        self.assertEqual((beds, parts), ([bed(0, 1), bed(1, 2)], [(1,), (2,), ()]))
        beds.pop()
        parts[0] = None
        self.assertEqual((web.beds, web.parts), ([bed(0, 1), bed(1, 2)], [(1,), (2,), ()]))
        self.assertEqual(water(web, (0, 0), rain=shares(1, 1, 1)), list(shares(1, 2, 3)))
        other = Web(3, web.beds, web.parts)
        self.assertIsNot(other.beds, web.beds)
        self.assertIsNot(other.parts, web.parts)


def is_number(thing):
    """Whether a thing is a number that might be a place."""
    return isinstance(thing, int) and not isinstance(thing, bool)


class TestEqual(Webs):
    def test_just_where_many_beds_and_parts_are(self):
        def made():
            return Web(3, [bed(0, 1), bed(0, 2, Share(1, 2), Share(2, 2))], [(1, 2), (), ()])
        others = [Web(4, [bed(0, 1), bed(0, 2, Share(1, 2), Share(1))], [(1, 2), (), (), ()]),
                  Web(3, [bed(0, 2), bed(0, 1, Share(1, 2), Share(1))], [(1, 2), (), ()]),
                  Web(3, [bed(0, 1), bed(0, 2, Share(1, 3), Share(1))], [(1, 2), (), ()]),
                  Web(3, [bed(0, 1), bed(0, 2, Share(1, 2), Share(2))], [(1, 2), (), ()]),
                  Web(3, [bed(0, 1), bed(0, 2, Share(1, 2), Share(1))], [(2, 1), (), ()]),
                  # The same in all that they do, but not equal.
                  Web(3, [bed(0, 1), bed(0, 2, Share(1, 2), Share(1))], [(2, 4), (), ()]),
                  Web(3, [bed(0, 1)], [(1,), (), ()])]
        self.assertIs(made() == made(), True)
        self.assertIs(made() != made(), False)
        self.assertIs(made() == Web(3, [bed(0, 1), bed(0, 2, Share(2, 4), Share(1))], [(1, 2), (), ()]), True)
        for other in others:
            self.assertIs(made() == other, False)
            self.assertIs(other == made(), False)

    def test_to_nothing_else(self):
        web = Web(1, [], [()])
        for thing in plain.odd_things() + [0, 1, Share(1), (1, [], [()])]:
            self.assertIs(web == thing, False)
            self.assertIs(thing == web, False)
            self.assertIs(web != thing, True)


class TestDay(Webs):
    def test_the_deeper_bed_gets_the_first_part(self):
        web = web_of(3, [(0, 1, 0, 5), (0, 2, 0, 5)], [(1, 3), (), ()])
        rain = shares(8, 1, 0)
        self.assertEqual(borne(web, (5, 4), rain=rain), list(shares(2, 6)))
        self.assertEqual(borne(web, (4, 5), rain=rain), list(shares(6, 2)))
        self.assertEqual(water(web, (5, 4), rain=rain), list(shares(8, 3, 6)))
        self.assertEqual(water(web, (4, 5), rain=rain), list(shares(8, 7, 2)))

    def test_a_tie_is_for_the_one_ahead(self):
        web = web_of(3, [(0, 1, 0, 5), (0, 2, 0, 5)], [(1, 3), (), ()])
        for depth in (0, -7, 10 ** 40):
            self.assertEqual(borne(web, (depth, depth), rain=shares(8, 0, 0)), list(shares(2, 6)))

    def test_parts_0_and_like_parts(self):
        web = web_of(3, [(0, 1, 0, 5), (0, 2, 0, 5)], [(0, 3), (), ()])
        self.assertEqual(borne(web, (1, 0), rain=shares(8, 0, 0)), list(shares(0, 8)))
        self.assertEqual(borne(web, (0, 1), rain=shares(8, 0, 0)), list(shares(8, 0)))
        web = web_of(3, [(0, 1, 0, 5), (0, 2, 0, 5)], [(7, 7), (), ()])
        self.assertEqual(borne(web, (0, 1), rain=shares(8, 0, 0)), list(shares(4, 4)))

    def test_one_alone_bears_all(self):
        web = web_of(2, [(0, 1, 0, 5)], [(9,), ()])
        self.assertEqual(borne(web, (-3,), rain=shares(Fraction(7, 3), 1)), [Share(7, 3)])
        self.assertEqual(water(web, (-3,), rain=shares(Fraction(7, 3), 1)), [Share(7, 3), Share(10, 3)])

    def test_just_low_and_just_high(self):
        web = web_of(2, [(0, 1, Fraction(1, 3), Fraction(1, 2))], [(1,), ()])
        for amount, by in (("1/3", -1), ("1/2", 1), ("2/5", 0), ("0", -1), ("3", 1),
                           ("100001/300000", 0), ("99999/300000", -1), ("49999/100000", 0)):
            self.assertEqual(step(web, (10,), rain=shares(Fraction(amount), 0)), (10 + by,))

    def test_marks_below_0(self):
        web = web_of(2, [(0, 1, -2, -1)], [(1,), ()])
        self.assertEqual(step(web, (0,), rain=shares(0, 0)), (1,))
        web = web_of(2, [(0, 1, -1, 1)], [(1,), ()])
        self.assertEqual(step(web, (0,), rain=shares(0, 0)), (0,))

    def test_both_to_one_place_and_a_bed_alone(self):
        web = web_of(3, [(0, 1, 0, 5), (0, 1, 0, 5), (1, 2, 0, 5)], [(1, 3), (2,), ()])
        self.assertEqual(water(web, (0, 1, 0), rain=shares(8, 1, 1)), list(shares(8, 9, 10)))
        self.assertEqual(borne(web, (0, 1, 0), rain=shares(8, 1, 1)), list(shares(6, 2, 9)))
        self.assertEqual(step(web, (0, 1, 0), rain=shares(8, 1, 1)), (1, 1, 1))

    def test_a_chain_of_eight(self):
        web = Web(*chain(8))
        self.assertEqual(water(web, (0,) * 7, rain=shares(*range(8))),
                         list(shares(0, 1, 3, 6, 10, 15, 21, 28)))
        self.assertEqual(step(web, (0,) * 7, rain=shares(*range(8))), (-1, 1, 1, 1, 1, 1, 1))

    def test_depths_of_forty_figures(self):
        web = web_of(3, [(0, 1, 0, 5), (0, 2, 0, 5)], [(1, 3), (), ()])
        deep = 10 ** 39 + 7
        self.assertEqual(step(web, (deep, deep + 1), rain=shares(8, 0, 0)), (deep + 1, deep + 1))
        self.assertEqual(step(web, (-deep, -deep - 1), rain=shares(0, 0, 0)), (-deep - 1, -deep - 2))

    def test_of_no_beds(self):
        web = Web(2, [], [(), ()])
        self.assertEqual((borne(web, (), rain=shares(1, 2)), step(web, (), rain=shares(1, 2))), ([], ()))
        self.assertEqual(water(web, (), rain=shares(1, 2)), list(shares(1, 2)))

    def test_chance_webs(self):
        rng = random.Random(91)
        for _ in range(1500):
            setting = plain_run.draw(rng, places=(1, 8), apart=(0, 2))
            numbers = [Fraction(rng.randint(0, 6), rng.randint(1, 4)) for _ in range(setting.many)]
            rains = [[(None, (number,))] for number in numbers]
            walked = Walked(Setting(setting.many, setting.beds, setting.parts, setting.depths, rains), 1)
            web, falls = setting.web(), shares(*numbers)
            self.assertEqual([fraction(each) for each in water(web, setting.depths, rain=falls)],
                             [water_of[0] for water_of in walked.water])
            self.assertEqual([fraction(each) for each in borne(web, setting.depths, rain=falls)],
                             [borne_by[0] for borne_by in walked.borne])
            self.assertEqual(step(web, setting.depths, rain=falls), tuple(walked.now))

    def test_told_lists_are_new_ones(self):
        web = Web(*chain(3))
        depths, rain = (0, 0), shares(1, 2, 3)
        for work in (water, borne):
            told = work(web, depths, rain=rain)
            kept = list(told)
            told.clear()
            self.assertEqual(work(web, depths, rain=rain), kept)
        self.assertIsInstance(step(web, depths, rain=rain), tuple)


class TestDayRefused(Webs):
    def setUp(self):
        self.web = web_of(3, [(0, 1, 0, 5), (0, 2, 0, 5)], [(1, 3), (), ()])

    def refuse(self, error, depths, rain):
        for work in (borne, water, step):
            with self.assertRaises(error):
                work(self.web, depths, rain=rain)

    def test_depths(self):
        for thing in plain.odd_things() + [0, [0, 0], (0,), (0, 0, 0), (), (0, True), (False, 0), (0, None),
                                           (0, "0"), (Share(0), 0), ([], {}), {0: 0, 1: 0}]:
            if thing != (0, 1):
                self.refuse(NoDepths, thing, shares(1, 2, 3))
                self.refuse(NoDepths, thing, None)
                self.refuse(NoDepths, thing, shares(1, 2))

    def test_rain(self):
        for thing in plain.odd_things() + [0, list(shares(1, 2, 3)), shares(1, 2), shares(1, 2, 3, 4), (1, 2, 3),
                                           (Share(1), Share(2), 3), (Share(1), Share(2), None), Share(1),
                                           shares(-1, 2, 3), shares(1, 2, Fraction(-1, 10 ** 20)),
                                           (Share(1), [], {})]:
            self.refuse(NoRain, (0, 1), thing)
        for work in (borne, water, step):
            work(self.web, (0, 1), rain=shares(0, 0, 0))

    def test_by_name_alone(self):
        for work in (borne, water, step):
            with self.assertRaises(TypeError):
                work(self.web, (0, 0), shares(0, 0, 0))
