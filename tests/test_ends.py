"""Ends (5.1), which bed wins, and drifts (5.2), and from when on two runs are the same (5.3), where they lie far."""

import unittest

from plain import always, course
from plain_run import web_of

from rillweb.courses import added, end, later, sum_to
from rillweb.runs import Run, settled
from rillweb.shares import Share

FAR = 10 ** 12
DRY = always(0)


def fork(first=(0, 1), second=(0, 1), parts=(1, 0)):
    """A place with two beds to two lakes, their marks, and the parts."""
    return web_of(3, [(0, 1, *first), (0, 2, *second)], [parts, (), ()])


def run(web, depths, *rains, **kinds):
    """A run with no rain on the other places."""
    return Run(web, depths, rains=[*rains] + [DRY] * (web.many - len(rains)), **kinds)


class TestEnds(unittest.TestCase):
    def test_of_a_place_without_a_choice(self):
        web = web_of(2, [(0, 1, 0, 1)], [(1,), ()])
        told = run(web, (0,), course((FAR, (1, 2)), (1, (1,)), (None, (2, 1))), course((5, (0,)), (None, (1, 1))))
        self.assertEqual(told.end_of(0), (0, 2))
        self.assertEqual(told.end_of(1), (5, 2))
        told = run(web, (0,), course((10, (5, 1, 2, 1, 2)), (None, (1, 2))))
        self.assertEqual(told.end_of(0), (6, 2))

    def test_the_water_and_the_choice_together(self):
        # The water is always the same; the choice turns once on a far day.
        web = fork(first=(0, 1), second=(2, 3), parts=(0, 1))
        told = run(web, (FAR, 0), always(1))
        # The bed ahead bears nothing and falls by one a day, the other one bears 1 and falls as well.
        self.assertEqual(told.end_of(0), (0, 1))
        web = fork(first=(0, 1), second=(0, 1), parts=(0, 1))
        told = run(web, (FAR, 0), always(1))
        # Now the other one grows: a day behind the tie it is first, and then they go to and fro.
        self.assertEqual(end(told.water_of(0)), (0, 1))
        self.assertEqual(told.end_of(0), (FAR // 2, 2))
        self.assertIsNone(told.wins(0))
        self.assertEqual((told.drift(0), told.drift(1)), ((0, 2), (0, 2)))
        self.assertEqual((told.depth_on(0, 10 ** 15), told.depth_on(1, 10 ** 15)), (FAR // 2, FAR // 2))

    def test_wins_from_a_far_day_on(self):
        # Bed 0 falls against bed 1 by one in two days for 3 * FAR days, until bed 1 is first; and then it goes away.
        web = fork(first=(1, 9), second=(-1, 5), parts=(1, 0))
        told = run(web, (FAR, 0), always(1, 2))
        self.assertEqual(told.wins(0), (1, 2 * FAR + 1))
        self.assertEqual(told.end_of(0), (2 * FAR + 1, 2))
        self.assertEqual(told.drift(0), (-2, 2))
        self.assertEqual(told.drift(1), (0, 2))
        self.assertEqual(told.leads(0), course((2 * FAR + 1, (1,)), (None, (0,))))
        self.assertEqual(told.ties(0), course((2 * FAR - 1, (0,)), (2, (1,)), (None, (0,))))

    def test_far_beyond_the_last_day_that_can_be_asked(self):
        # The gap grows by two a day for 10 ** 13 days, and falls by one in twelve days behind them.
        web = fork(first=(1, 9), second=(-1, 5), parts=(1, 0))
        told = run(web, (0, 0), course((10 ** 14, (9,)), (None, (2,) * 11 + (1,))))
        gap = 10 ** 14
        self.assertEqual(told.depth_on(0, gap), gap)
        self.assertEqual(told.depth_on(1, gap), 0)
        begin = gap + 12 * gap + 12
        self.assertEqual(told.wins(0), (1, begin))
        self.assertEqual(told.end_of(0), (begin, 12))
        self.assertEqual(told.depth_on(0, 10 ** 15) - told.depth_on(1, 10 ** 15), gap - (10 ** 15 - gap) // 12)
        self.assertEqual(told.drift(0), (-12, 12))
        self.assertEqual(told.drift(1), (0, 12))
        self.assertEqual(later(told.leads(0), 10 ** 15), course((begin - 10 ** 15, (1,)), (None, (0,))))

    def test_each_place_in_its_own_time(self):
        # Place 0 goes to and fro for ever, place 1 below it is settled, with water of which the rest goes by.
        web = web_of(4, [(0, 1, 0, 1), (0, 1, 0, 1), (1, 2, 0, 9), (1, 3, 1, 9)], [(0, 1), (1, 1), (), ()])
        told = run(web, (0, 0, 5, 0), always(1))
        self.assertIsNone(told.wins(0))
        self.assertEqual(told.end_of(0)[1], 2)
        self.assertEqual((told.wins(1), told.end_of(1)), ((2, 0), (0, 1)))
        # And the other way about.
        web = web_of(4, [(0, 1, -1, 9), (0, 1, -1, 1), (1, 2, 0, 1), (1, 3, 0, 1)], [(0, 1), (0, 1), (), ()])
        told = run(web, (3, 0, 0, 0), always(1))
        self.assertEqual((told.wins(0), told.end_of(0)[1]), ((1, 4), 1))
        self.assertIsNone(told.wins(1))
        self.assertEqual(told.end_of(1)[1], 2)


class TestWins(unittest.TestCase):
    def test_from_day_0_on(self):
        self.assertEqual(run(fork(), (0, 0), always(1)).wins(0), (0, 0))
        self.assertEqual(run(fork(), (-1, 0), always(1)).wins(0), (1, 0))
        self.assertEqual(run(fork(), (0, 0), DRY).wins(0), (0, 0))

    def test_behind_digs(self):
        told = run(fork(), (0, 0), DRY, digs=((7, 1, 1),))
        self.assertEqual(told.wins(0), (1, 7))
        told = run(fork(), (0, 0), DRY, digs=((7, 1, 1), (FAR, 0, 1)))
        self.assertEqual(told.wins(0), (0, FAR))
        self.assertEqual(told.end_of(0), (FAR, 1))
        told = run(fork(), (0, 0), DRY, digs=((7, 1, 1), (9, 0, 1), (FAR, 1, 1), (FAR, 0, 1)))
        self.assertEqual(told.wins(0), (0, 9))

    def test_behind_turned_ties(self):
        told = run(fork(), (0, 0), DRY, turned=((FAR, 0), (3, 0)))
        self.assertEqual(told.wins(0), (0, FAR + 1))
        # On a day without a tie nothing is turned.
        told = run(fork(), (1, 0), DRY, turned=((FAR, 0), (3, 0)))
        self.assertEqual(told.wins(0), (0, 0))

    def test_both_without_end(self):
        self.assertIsNone(run(fork(parts=(0, 1)), (0, 0), always(1)).wins(0))

    def test_the_bed_that_wins_is_told_by_its_number(self):
        web = web_of(3, [(0, 1, 0, 1), (1, 2, 0, 1), (1, 2, 0, 1)], [(1,), (1, 0), ()])
        self.assertEqual(run(web, (0, 3, 0), always(1)).wins(1), (1, 0))
        self.assertEqual(run(web, (0, 0, 3), always(1)).wins(1), (2, 0))


class TestDrift(unittest.TestCase):
    def test_of_a_place_with_one_bed(self):
        web = web_of(2, [(0, 1, 1, 3)], [(4,), ()])
        self.assertEqual(run(web, (0,), always(3)).drift(0), (1, 1))
        self.assertEqual(run(web, (0,), always(3, 2, 1, 1)).drift(0), (-1, 4))
        self.assertEqual(run(web, (0,), course((FAR, (3,)), (None, (0, 2)))).drift(0), (-1, 2))

    def test_digs_are_left_aside(self):
        web = web_of(2, [(0, 1, 1, 3)], [(4,), ()])
        told = run(web, (0,), always(3, 2), digs=((0, 0, 50), (1, 0, 60), (FAR, 0, -5)))
        self.assertEqual(told.drift(0), (1, 2))
        self.assertEqual(told.depth_on(0, 2 * FAR), 105 + FAR)
        self.assertEqual(sum_to(told.moves(0), 2 * FAR), Share(FAR))

    def test_over_the_round_of_the_place_not_of_the_moves(self):
        # The moves are always the same, but the water comes round in five days.
        web = web_of(2, [(0, 1, 0, 1)], [(1,), ()])
        told = run(web, (0,), always(1, 2, 3, 4, 5))
        self.assertEqual(end(told.moves(0)), (0, 1))
        self.assertEqual(told.drift(0), (5, 5))


class TestSettled(unittest.TestCase):
    def test_a_run_and_itself(self):
        for web, depths in ((fork(), (0, 0)), (fork(parts=(0, 1)), (FAR, 0))):
            told = run(web, depths, always(1, 0))
            self.assertEqual(settled(told, told, 0), 0)
            self.assertEqual(settled(told, run(web, depths, always(1, 0)), 0), 0)

    def test_unlike_in_a_depth(self):
        web = fork((1, 9), (-1, 5))
        one, other = run(web, (FAR, 0), always(1, 2)), run(web, (5, 0), always(1, 2))
        self.assertEqual(settled(one, other, 0), 2 * FAR + 1)
        self.assertEqual(settled(other, one, 0), 2 * FAR + 1)

    def test_unlike_in_a_dig_or_a_rain(self):
        one = run(fork(), (0, 0), DRY)
        other = run(fork(), (0, 0), DRY, digs=((5, 1, 3), (FAR, 0, 3)))
        self.assertEqual(settled(one, other, 0), FAR)
        self.assertIsNone(settled(one, run(fork(), (0, 0), DRY, digs=((5, 1, 3),)), 0))
        self.assertEqual(settled(one, run(fork(), (0, 0), always(3)), 0), 0)

    def test_the_same_round_some_days_behind(self):
        web = fork(parts=(0, 1))
        one, other = run(web, (0, 0), always(1)), run(web, (-1, 0), always(1))
        self.assertEqual(one.leads(0), always(1, 0))
        self.assertEqual(later(one.leads(0), 1), other.leads(0))
        self.assertIsNone(settled(one, other, 0))
        # Two days behind it is the same.
        self.assertEqual(settled(one, run(web, (4, 0), always(1)), 0), 2)


class TestFarTurns(unittest.TestCase):
    def test_the_water_below_changes_on_far_days(self):
        # Each place turns on a far day, and by it the one below is brought to turn later.
        beds = [(0, 1, 0, 99), (0, 4, -1, 99), (1, 2, 0, 99), (1, 4, -1, 99), (2, 3, 0, 99), (2, 4, -1, 99)]
        web = web_of(5, beds, [(0, 1)] * 3 + [(), ()])
        told = Run(web, (FAR, 0, 5, 0, 7, 0), rains=[always(1), DRY, DRY, DRY, DRY])
        # Place 0: bed 0 bears nothing and falls by one; bed 1 bears 1 and stays. So it turns on the day FAR + 1.
        self.assertEqual(told.leads(0), course((FAR + 1, (1,)), (None, (0,))))
        self.assertEqual(told.water_of(1), course((FAR + 1, (0,)), (None, (1,))))
        # Place 1: without water bed 2 falls by one, bed 3 stays.
        self.assertEqual(told.leads(1), course((6, (1,)), (None, (0,))))
        self.assertEqual(told.water_of(2), course((FAR + 1, (0,)), (None, (1,))))
        self.assertEqual(told.leads(2), course((8, (1,)), (None, (0,))))
        self.assertEqual(told.water_of(3), course((FAR + 1, (0,)), (None, (1,))))
        self.assertEqual(told.got_by(3, 10 ** 15), Share(10 ** 15 - FAR - 1))
        self.assertEqual(told.depth_on(4, 10 ** 15), 7 - FAR - 1)
        for place in (0, 1, 2, 3):
            self.assertEqual(told.end_of(place), (FAR + 1, 1))

    def test_a_chain_of_far_turns(self):
        # Where a place has water its other bed grows, until that is first; then the water goes on to the next place.
        beds = []
        for place in range(4):
            beds += [(place, place + 1, -1, 99), (place, 5, -1, 1)]
        web = web_of(6, beds, [(0, 1)] * 4 + [(), ()])
        told = Run(web, (FAR, 0) * 4, rains=[always(1)] + [DRY] * 5)
        for place in range(4):
            begin = (place + 1) * (FAR + 1)
            self.assertEqual(told.leads(place), course((begin, (1,)), (None, (0,))))
            self.assertEqual(told.water_of(place + 1), course((begin, (0,)), (None, (1,))))
            self.assertEqual(told.end_of(place), (begin, 1))
            self.assertEqual(told.wins(place), (2 * place + 1, begin))
            self.assertEqual(told.ties(place), course((begin - 1, (0,)), (1, (1,)), (None, (0,))))
            self.assertEqual(told.depth_on(2 * place + 1, 10 ** 15), FAR + 1)
        self.assertEqual(added([told.water_of(4), told.water_of(5)]), always(1))
        self.assertEqual(told.got_by(4, 10 ** 15), Share(10 ** 15 - 4 * FAR - 4))

    def test_depths_that_stand_or_go_away(self):
        web = fork(first=(-1, 9), second=(-1, 9))
        for depths, bed in (((FAR, -FAR), 0), ((-FAR, FAR), 1), ((0, 0), 0)):
            told = run(web, depths, always(1))
            self.assertEqual(told.wins(0), (bed, 0))
            self.assertEqual([told.depth_on(at, 10 ** 15) for at in (0, 1)], list(depths))
        web = fork(first=(0, 1), second=(0, 1))
        told = run(web, (-FAR, FAR), always(1))
        self.assertEqual([told.depth_on(at, 10 ** 15) for at in (0, 1)], [-FAR - 10 ** 15, FAR + 10 ** 15])

    def test_by_rounds_of_two_and_three_of_the_water(self):
        for high, rounds in ((3, 2), (2, 3)):
            web = fork(first=(1, 6), second=(1, high), parts=(0, 1))
            told = run(web, (0, 0), always(0, 2, 1))
            self.assertEqual(told.end_of(0)[1], 3 * rounds)
            self.assertIsNone(told.wins(0))
            far = run(web, (FAR, 0), always(0, 2, 1))
            self.assertEqual(far.end_of(0)[1], 3 * rounds)
            self.assertGreater(far.end_of(0)[0], FAR)
            self.assertEqual(far.drift(0)[0], far.drift(1)[0])
