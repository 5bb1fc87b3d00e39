"""Runs: how they are made and refused (4.1), and what is refused of what is asked (4.3, 5.1 to 5.3)."""

import unittest

import plain
from plain import always, course, shares
from plain_run import Setting, Walked, web_of

from rillweb.courses import Course, added, end, first_unlike, later, on, sum_to, taken
from rillweb.errors import NoBed, NoDay, NoDepths, NoDigs, NoPlace, NoRain, NoTurned, TooLong
from rillweb.runs import Run, settled
from rillweb.shares import Share
from rillweb.webs import Web

FAR = 10 ** 12
DRY = always(0)
WET = (always(4), DRY, DRY, DRY)


def web():
    """A web with a place of two beds, one of one bed, and two lakes."""
    return web_of(4, [(0, 1, 0, 5), (0, 2, 1, 5), (1, 3, 0, 9)], [(1, 3), (2,), (), ()])


def run(depths=(0, 0, 0), rains=WET, **kinds):
    """A run of this web."""
    return Run(web(), depths, rains=list(WET) if rains is WET else rains, **kinds)


class Runs(unittest.TestCase):
    def refuse(self, error, work, *given, **kinds):
        with self.assertRaises(error) as caught:
            work(*given, **kinds)
        return caught.exception


class TestDepths(Runs):
    def test_from_least_to_most(self):
        self.assertEqual(run((-FAR, FAR, 0)).depth_on(0, 0), -FAR)
        self.assertEqual(run((-FAR, FAR, 0)).depth_on(1, 0), FAR)
        for amiss in (FAR + 1, -FAR - 1, 10 ** 40):
            for depths in ((amiss, 0, 0), (0, amiss, 0), (0, 0, amiss)):
                self.refuse(NoDepths, run, depths)

    def test_of_any_kind(self):
        for thing in plain.odd_things() + [0, [0, 0, 0], (0, 0), (0, 0, 0, 0), (0, 0, True), (None, 0, 0),
                                           (0, "1", 0), (0, Share(0), 0), ([], {}, 0), {0: 0, 1: 0, 2: 0}]:
            self.refuse(NoDepths, run, thing)

    def test_of_no_beds(self):
        told = Run(Web(1, [], [()]), (), rains=[always(1, 2)])
        self.assertEqual(told.water_of(0), always(1, 2))
        self.refuse(NoDepths, Run, Web(1, [], [()]), (0,), rains=[DRY])


class TestRains(Runs):
    def good(self, rain):
        told = Run(Web(1, [], [()]), (), rains=[rain])
        self.assertEqual(told.water_of(0), rain)
        rains = [DRY, DRY, rain, DRY]
        self.assertEqual(run(rains=rains).water_of(2), added([rain, run(rains=rains).borne_by(1)]))

    def amiss(self, rain):
        self.refuse(NoRain, Run, Web(1, [], [()]), (), rains=[rain])
        self.refuse(NoRain, run, rains=[DRY, DRY, DRY, rain])
        self.refuse(NoRain, run, rains=[rain, DRY, DRY, DRY])

    def test_a_course_for_each_place(self):
        for thing in plain.odd_things() + [0, (DRY,) * 4, [DRY] * 3, [DRY] * 5, DRY, {0: DRY}, [DRY, DRY, DRY, 0],
                                           [DRY, DRY, Share(0), DRY], [[DRY], DRY, DRY, DRY]]:
            self.refuse(NoRain, run, rains=thing)
        for thing in plain.odd_things() + [0, Share(1), [(None, shares(1))]]:
            self.amiss(thing)

    def test_below_0_on_days_that_are_never_reached(self):
        self.good(course((2, (1, 2, -1)), (None, (3,))))
        self.good(course((1, (0, -5)), (2, (1, 1, -1)), (None, (3,))))
        self.good(later(course((5, (1, -2)), (None, (3,))), 5))
        self.good(taken(Share(-1), always(-1, 0)))

    def test_below_0_on_a_day_that_is_told(self):
        self.amiss(always(-1))
        self.amiss(course((3, (1, 2, -1)), (None, (3,))))
        self.amiss(course((FAR, (1,)), (1, (-1,)), (None, (3,))))
        self.amiss(course((FAR, (1,)), (FAR, (2,)), (None, (1, 1, 1, 1, 1, -1))))
        self.amiss(later(course((FAR, (1,)), (1, (-1,)), (None, (3,))), FAR))
        self.amiss(Course([(None, (Share(1), Share(-1, 10 ** 30)))]))

    def test_ten_and_eleven_stretches(self):
        ten = [(FAR, (at, at + 1)) for at in range(9)]
        self.good(course(*ten, (None, (9,))))
        self.amiss(course(*ten, (FAR, (10,)), (None, (9,))))
        self.amiss(course(*ten, (24, (10,)), (None, (9,))))

    def test_words_of_twelve_and_thirteen(self):
        self.good(always(*range(12)))
        self.amiss(always(*range(13)))
        self.good(course((FAR, range(12)), (None, (0,))))
        self.amiss(course((FAR, range(13)), (None, (0,))))

    def test_however_it_was_written(self):
        self.good(course(*[(FAR, (3,)) for _ in range(20)], (None, (3, 3))))
        self.good(always(*[1, 2, 3] * 13))
        self.good(course(*[(1, (at % 12,)) for at in range(50)], (None, (2, 3, 4, 5, 6, 7, 8, 9, 10, 11, 0, 1))))
        self.good(course((13, range(13)), (None, (1,))))
        self.good(course((24, range(24)), (None, (1,))))
        self.good(course((108, range(60)), (None, (60,))))
        self.amiss(course((109, range(60)), (None, (60,))))
        self.amiss(course((40, range(40)), (40, range(40)), (40, range(40)), (None, (60,))))

    def test_the_longest_first(self):
        # Ten stretches of twelve days all unlike, but for the last one, which goes on.
        nine = [(12, range(20 * at, 20 * at + 12)) for at in range(9)]
        self.good(course(*nine, (None, (7,))))
        self.amiss(course(*nine, (1, (8,)), (12, (9,)), (None, (7,))))
        self.good(course(*nine, (1, (8,)), (None, (7, 8))))
        self.good(course((60, range(60)), (48, range(60, 108)), (None, (7, 8, 9))))
        self.amiss(course((60, range(60)), (60, range(60, 120)), (None, (7, 8, 9))))

    def test_told_by_added_taken_later_and_runs(self):
        self.good(added([course((FAR, (1, 2, 3)), (None, (4,))), always(1, 1, 2, 2)]))
        self.amiss(added([always(*range(3)), always(*range(5))]))
        self.good(added([course(*[(FAR, (at, 1)) for at in range(50)], (None, (1,))),
                         taken(Share(-1), course(*[(FAR, (at, 0)) for at in range(50)], (None, (0,))))]))
        some = course(*[(9, (at,)) for at in range(30)], (None, (1,)))
        self.amiss(some)
        self.good(later(some, 9 * 21))
        self.amiss(later(some, 9 * 15))
        told = run((0, 5, 0), [always(4, 0), DRY, DRY, DRY], digs=((7, 0, 40),))
        for each in (told.water_of(1), told.borne_by(1), told.leads(0), told.ties(0)):
            self.good(each)

    def test_a_course_of_more_than_sixty_spans(self):
        # A tie on each of many lone days, told by another run.
        digs = tuple((100 * at + 1, 0, (-1) ** at) for at in range(20))
        told = Run(web_of(3, [(0, 1, 0, 5), (0, 2, 0, 5)], [(1, 1), (), ()]), (0, 0),
                   rains=[always(1), DRY, DRY], digs=digs)
        self.amiss(told.ties(0))
        self.good(later(told.ties(0), 1600))
        self.good(later(told.ties(0), 10 ** 15))

    def test_the_list_stays_and_changed_behind_changes_nothing(self):
        rains = [always(4), DRY, DRY, always(1)]
        kept = list(rains)
        told = run(rains=rains)
        self.assertTrue(all(mine is theirs for mine, theirs in zip(rains, kept)) and len(rains) == 4)
        rains[0] = always(100)
        rains.clear()
        self.assertEqual(told.water_of(0), always(4))
        self.assertEqual(told.got_by(3, 10), told.got_by(3, 10))
        self.assertEqual(told.water_of(3), added([told.borne_by(2), always(1)]))


class TestDigs(Runs):
    def test_several_of_one_bed_on_one_day(self):
        told = run((0, 0, 0), [always(0), DRY, DRY, DRY], digs=((3, 0, 5), (3, 0, -2), (3, 1, 1), (3, 0, 1)))
        self.assertEqual([told.depth_on(0, day) for day in range(6)], [0, -1, -2, 1, 0, -1])
        self.assertEqual([told.depth_on(1, day) for day in range(6)], [0, -1, -2, -2, -3, -4])

    def test_on_the_first_and_the_last_day(self):
        told = run((0, 0, 0), digs=((0, 0, -1), (FAR, 1, FAR)))
        self.assertEqual(told.depth_on(0, 0), -1)
        self.assertEqual(told.depth_on(1, FAR) - told.depth_on(1, FAR - 1), FAR)

    def test_of_one_places_both_beds(self):
        told = run((0, 0, 0), [always(0), DRY, DRY, DRY], digs=((5, 0, 7), (5, 1, 7)))
        self.assertEqual((told.depth_on(0, 5), told.depth_on(1, 5)), (2, 2))
        self.assertEqual(told.leads(0), always(1))

    def test_twenty_and_twenty_one(self):
        for many in (20, 21):
            digs = tuple((at, at % 3, 1) for at in range(many))
            if many == 20:
                run(digs=digs)
                run(digs=digs[:1] * 20)
            else:
                self.refuse(NoDigs, run, digs=digs)
                self.refuse(NoDigs, run, digs=digs[:1] * 21)

    def test_what_is_no_dig(self):
        good = (1, 0, 1)
        for amiss in ((1, 0, 0), (1, 0, True), (1, 0, False), (1, True, 1), (True, 0, 1), (-1, 0, 1),
                      (FAR + 1, 0, 1), (10 ** 15, 0, 1), (1, -1, 1), (1, 3, 1), (1, 10 ** 9, 1), (1, 0), (1, 0, 1, 1),
                      (), [1, 0, 1], (1, 0, None), (1, None, 1), (None, 0, 1), ("1", 0, 1), (1, [], 1), (1, {}, 1),
                      ([], 0, 1), ({}, 0, 1), (1, 0, []), (1, 0, {}), (1, 0, Share(1)), (Share(1), 0, 1), (1, 0, "1")):
            self.refuse(NoDigs, run, digs=(amiss,))
            self.refuse(NoDigs, run, digs=(good, amiss))
            self.refuse(NoDigs, run, digs=(amiss, good))
        run(digs=(good, (FAR, 2, -FAR), (0, 1, FAR)))

    def test_of_any_kind(self):
        for thing in plain.odd_things() + [1, [(1, 0, 1)], [], {}, Share(1), ((1, 0, 1), None)]:
            if thing != ():
                self.refuse(NoDigs, run, digs=thing)
            self.refuse(NoDigs, run, digs=(thing,))
        run(digs=())

    def test_of_a_web_without_beds(self):
        self.refuse(NoDigs, Run, Web(1, [], [()]), (), rains=[DRY], digs=((0, 0, 1),))


class TestTurned(Runs):
    def test_on_the_first_and_the_last_day(self):
        told = run((0, 0, 0), [DRY] * 4, turned=((0, 0), (FAR, 0)))
        self.assertEqual(told.leads(0), course((1, (0,)), (FAR - 1, (1,)), (1, (0,)), (None, (1,))))

    def test_twenty_and_twenty_one(self):
        run(turned=tuple((at, 0) for at in range(20)))
        self.refuse(NoTurned, run, turned=tuple((at, 0) for at in range(21)))

    def test_the_same_twice(self):
        self.refuse(NoTurned, run, turned=((5, 0), (5, 0)))
        self.refuse(NoTurned, run, turned=((5, 0), (6, 0), (5, 0)))

    def test_what_is_no_turned_tie(self):
        good = (1, 0)
        for amiss in ((1, 1), (1, 2), (1, 3), (1, 4), (1, -1), (-1, 0), (FAR + 1, 0), (True, 0), (1, False), (1,),
                      (1, 0, 0), (), [1, 0], (None, 0), (1, None), ("1", 0), ([], 0), (1, []), ({}, 0), (1, {}),
                      (Share(1), 0), (1, Share(0))):
            self.refuse(NoTurned, run, turned=(amiss,))
            self.refuse(NoTurned, run, turned=(good, amiss))
            self.refuse(NoTurned, run, turned=(amiss, good))

    def test_of_any_kind(self):
        for thing in plain.odd_things() + [1, [(1, 0)], [], {}, Share(1), ((1, 0), None)]:
            if thing != ():
                self.refuse(NoTurned, run, turned=thing)
            self.refuse(NoTurned, run, turned=(thing,))
        run(turned=())


class TestOrder(Runs):
    def test_depths_rains_digs_turned(self):
        fine = {"rains": [DRY] * 4, "digs": (), "turned": ()}
        for amiss in (None, 5, [], {}, [None], ((),)):
            self.refuse(NoDepths, run, None, amiss, digs=amiss, turned=amiss)
            self.refuse(NoDepths, run, (0, 0, FAR + 1), fine["rains"], digs=amiss)
            self.refuse(NoDepths, run, (0, 0, FAR + 1), fine["rains"], turned=amiss)
            self.refuse(NoRain, run, (0, 0, 0), [always(-1)] * 4, digs=amiss, turned=amiss)
            self.refuse(NoRain, run, (0, 0, 0), [DRY] * 3, digs=amiss)
            self.refuse(NoDigs, run, (0, 0, 0), fine["rains"], digs=amiss, turned=amiss)
            self.refuse(NoDigs, run, (0, 0, 0), fine["rains"], digs=((0, 0, 0),), turned=amiss)
            self.refuse(NoTurned, run, (0, 0, 0), fine["rains"], turned=amiss)

    def test_ahead_of_too_long(self):
        # This run can't be told, but what is handed in is looked at first.
        rains = [always(*range(7)), always(*range(9)), DRY, DRY]
        self.refuse(NoDigs, run, rains=rains, digs=((0, 0, 0),))
        self.refuse(NoTurned, run, rains=rains, turned=((0, 1),))

    def test_by_name_alone(self):
        self.refuse(TypeError, Run, web(), (0, 0, 0), [DRY] * 4)


class TestAsked(Runs):
    def setUp(self):
        self.told = run((0, 5, 0), [always(4, 0), always(1), DRY, DRY], digs=((3, 0, 9),), turned=((1, 0),))

    def test_no_places(self):
        told = self.told
        for thing in plain.odd_things() + [-1, 4, 10 ** 9, Share(0), told]:
            for work in (told.water_of, told.end_of, told.leads, told.ties, told.wins):
                self.assertIs(self.refuse(NoPlace, work, thing).place, thing)
            for days in (0, 5, -1, None, [], 10 ** 16):
                self.assertIs(self.refuse(NoPlace, told.got_by, thing, days).place, thing)
            self.assertIs(self.refuse(NoPlace, settled, told, told, thing).place, thing)

    def test_places_without_two_beds(self):
        for place in (1, 2, 3):
            for work in (self.told.leads, self.told.ties, self.told.wins):
                self.assertIs(self.refuse(NoPlace, work, place).place, place)
            self.assertEqual(self.refuse(NoPlace, settled, self.told, self.told, place).place, place)
            self.told.water_of(place)
            self.told.end_of(place)
            self.told.got_by(place, 5)

    def test_no_beds(self):
        told = self.told
        for thing in plain.odd_things() + [-1, 3, 10 ** 9, Share(0), told]:
            for work in (told.borne_by, told.moves, told.drift):
                self.assertIs(self.refuse(NoBed, work, thing).bed, thing)
            for day in (0, 5, -1, None, {}, 10 ** 16):
                self.assertIs(self.refuse(NoBed, told.depth_on, thing, day).bed, thing)

    def test_no_days(self):
        for thing in plain.odd_things() + [-1, 10 ** 15 + 1, 10 ** 40, Share(0), "5"]:
            self.refuse(NoDay, self.told.depth_on, 0, thing)
            self.refuse(NoDay, self.told.got_by, 0, thing)

    def test_the_first_and_the_last_day(self):
        told = run((0, 0, 7), [always(4, 0), always(1), DRY, DRY])
        self.assertEqual([told.depth_on(2, day) for day in (0, 1)], [7, 7])
        self.assertEqual(told.got_by(0, 0), Share(0))
        self.assertEqual(told.got_by(0, 10 ** 15), Share(2 * 10 ** 15))
        dry = run((0, 0, 7), [DRY] * 4)
        self.assertEqual(dry.depth_on(2, 10 ** 15), 7 - 10 ** 15)

    def test_asked_again_the_same_is_told(self):
        told = self.told
        for _ in range(3):
            self.assertEqual(told.got_by(1, 9), sum_to(told.water_of(1), 9))
            self.assertEqual(told.water_of(0), always(4, 0))
            self.assertEqual(told.depth_on(0, 3) - told.depth_on(0, 2), 9 + on(told.moves(0), 2).top)
            self.assertEqual(told.ties(0), told.ties(0))
            self.assertEqual(told.end_of(0), told.end_of(0))

    def test_all_of_a_small_run(self):
        # Place 0: the bed to 1 is first while it is as deep; first it bears one of four, the other one three of four.
        told = run((2, 0, 0), [always(8), DRY, DRY, DRY])
        self.assertEqual(told.water_of(0), always(8))
        # Bed 0 bears 2, stays; bed 1 bears 6, becomes deeper: a tie on day 2, and then bed 1 is first.
        self.assertEqual(told.leads(0), course((3, (1,)), (None, (0, 1))))
        self.assertEqual(told.ties(0), course((2, (0,)), (None, (1, 0))))
        self.assertEqual(told.borne_by(0), course((3, (2,)), (None, (6, 2))))
        self.assertEqual(told.borne_by(1), course((3, (6,)), (None, (2, 6))))
        self.assertEqual(told.water_of(2), told.borne_by(1))
        self.assertEqual(told.moves(0), course((3, (0,)), (None, (1, 0))))
        self.assertEqual(told.moves(1), course((3, (1,)), (None, (0, 1))))
        self.assertEqual([told.depth_on(0, day) for day in range(8)], [2, 2, 2, 2, 3, 3, 4, 4])
        self.assertEqual([told.depth_on(1, day) for day in range(8)], [0, 1, 2, 3, 3, 4, 4, 5])
        self.assertEqual(told.depth_on(1, 10 ** 15), 3 + (10 ** 15 - 4) // 2)
        self.assertEqual(told.end_of(0), (2, 2))
        self.assertIsNone(told.wins(0))
        self.assertEqual((told.drift(0), told.drift(1)), ((1, 2), (1, 2)))
        self.assertEqual(told.got_by(2, 5), Share(6 + 6 + 6 + 2 + 6))
        self.assertEqual(told.got_by(1, 10 ** 15), Share(6 + 8 * (10 ** 15 - 4) // 2 + 6))


class TestTies(Runs):
    def clusters(self, many):
        """Six ties within twelve days, so often: each time a dig brings the gap back to 0."""
        word = (9, 0) * 5 + (9, 9)
        beds = [(0, 1, 4, 5), (0, 2, -1, 100)]
        digs = tuple((1200 * at, 0, -200) for at in range(1, many))
        return Setting(3, beds, [(1, 0), (), ()], (0, 0), [[(None, word)], [(None, (0,))], [(None, (0,))]], digs)

    def test_more_than_sixty_lone_days(self):
        setting = self.clusters(20)
        told = setting.run()
        ties = told.ties(0)
        days = Walked(setting, 1200 * 21).ties[0]
        self.assertEqual(sum(days), 120)
        self.assertEqual([on(ties, day).top for day in range(len(days))], days)
        self.assertEqual(sum_to(ties, len(days)), Share(sum(days)))
        self.assertEqual(sum_to(ties, 10 ** 15), Share(sum(days)))
        self.assertTrue(ties == told.ties(0) == setting.run().ties(0))
        last = max(day for day, tie in enumerate(days) if tie)
        self.assertEqual(end(ties), (last + 1, 1))
        for late in (1, 1200, 5000, last, last + 1, 10 ** 15):
            past = later(ties, late)
            self.assertEqual([on(past, day).top for day in range(3000)], (days[late:] + [0] * 3000)[:3000])
        twice = taken(Share(2), ties)
        self.assertEqual([on(twice, day).top for day in range(len(days))], [2 * tie for tie in days])
        self.assertEqual(first_unlike(ties, twice), days.index(1))
        self.assertIsNone(first_unlike(ties, taken(Share(1, 2), twice)))
        fewer = self.clusters(10).run().ties(0)
        self.assertEqual(first_unlike(ties, fewer), 12000)
        self.assertNotEqual(ties, fewer)
        # Each cluster is one stretch, and so is what is between.
        self.assertEqual(added([ties]), ties)
        self.assertEqual(added([ties, taken(Share(-1), ties)]), DRY)

    def touches(self, digs):
        """A water that goes up and down fifty-four times, so that the gap falls to 0 and grows again."""
        rains = []
        for at in range(6):
            ahead = [(1000 * (9 * at + 1), (at % 2,))]
            ahead += [(1000, ((at + late) % 2,)) for late in range(1, 9)]
            rains.append(ahead + [(None, ((at + 1) % 2,))])
        beds = [(at, 6, 0, 1) for at in range(6)] + [(6, 7, 3, 4), (6, 7, -1, 100)]
        return Setting(8, beds, [(1,)] * 6 + [(1, 0), ()], (0,) * 6 + (1000, 0),
                       rains + [[(None, (0,))]] * 2, digs)

    def test_a_sum_that_takes_more_than_sixty_stretches(self):
        told = self.touches(()).run()
        ties = told.ties(6)
        self.assertEqual(end(told.water_of(6)), (54000, 1))
        self.assertEqual([day for day in range(60000) if on(ties, day).top], [*range(1000, 56000, 2000)])
        self.assertEqual(added([ties]), ties)
        # For a day each the gap is made 0 by a dig.
        digs = []
        for at in range(10):
            digs += [(2500 + 4000 * at, 6, -500), (2501 + 4000 * at, 6, 500)]
        told = self.touches(tuple(digs)).run()
        ties = told.ties(6)
        lone = sorted([*range(1000, 56000, 2000)] + [day for day, _, by in digs if by < 0])
        self.assertEqual([day for day in range(60000) if on(ties, day).top], lone)
        for some in ([ties], [ties, always(1)], [ties, ties], [ties, taken(Share(-2), ties)]):
            with self.assertRaises(TooLong) as caught:
                added(some)
            self.assertIsNone(caught.exception.place)
        self.assertEqual(added([ties, taken(Share(-1), ties), always(3, 4)]), always(3, 4))
        self.assertEqual(added([later(ties, 30000)]), later(ties, 30000))
        self.assertEqual(end(ties), (55001, 1))
        self.assertEqual(sum_to(ties, 10 ** 15), Share(38))
        self.assertEqual(sum_to(ties, 2500), Share(1))
        self.assertEqual(sum_to(ties, 2501), Share(2))
