"""Ties (6.1), turned ties, and what comes of them (6.2)."""

import random
import unittest
from itertools import product

import plain
import plain_run
from plain import always, course, fraction
from plain_run import Setting, Walked, web_of

from rillweb.chances import matters, ties_of, turn
from rillweb.courses import later, on
from rillweb.errors import NoDay, NoTie, NoTurned, TooLong
from rillweb.runs import Run, settled

FAR = 10 ** 12
DRY = always(0)


def still(parts=(1, 2), many=1):
    """A run of some places with two beds each that stand as they are, both of one depth."""
    beds = [(place, many, -1, 99) for place in range(many) for _ in range(2)]
    web = web_of(many + 1, beds, [parts] * many + [()])
    return Run(web, (0, 0) * many, rains=[always(3)] * many + [DRY])


def swaying():
    """A run whose beds go to and fro: a turned tie is made good on the next day."""
    web = web_of(3, [(0, 1, 0, 1), (0, 2, 0, 1)], [(0, 1), (), ()])
    return Run(web, (0, 0), rains=[always(1), DRY, DRY])


def tipping():
    """A run whose beds stay level, until a tie is turned: then the bed ahead falls, and is never first again."""
    web = web_of(3, [(0, 1, 0, 2), (0, 2, -1, 2)], [(1, 0), (), ()])
    return Run(web, (0, 0), rains=[always(1), DRY, DRY])


class Chances(unittest.TestCase):
    def same(self, one, other):
        """Two runs tell the same."""
        for place in range(one.web.many):
            self.assertEqual(one.water_of(place), other.water_of(place))
            self.assertEqual(one.end_of(place), other.end_of(place))
            if len(one.web.parts[place]) == 2:
                self.assertEqual(one.leads(place), other.leads(place))
                self.assertEqual(one.ties(place), other.ties(place))
        for bed in range(len(one.web.beds)):
            self.assertEqual(one.borne_by(bed), other.borne_by(bed))
            self.assertEqual(one.moves(bed), other.moves(bed))
            self.assertEqual(one.depth_on(bed, 10 ** 15), other.depth_on(bed, 10 ** 15))


class TestTiesOf(Chances):
    def test_sorted_by_day_and_then_by_place(self):
        self.assertEqual(ties_of(still(many=3), 3), [(day, place) for day in range(3) for place in range(3)])
        self.assertEqual(ties_of(still(many=3), 0), [])
        self.assertEqual(len(ties_of(still(many=3), 200)), 600)

    def test_like_parts_are_left_aside(self):
        self.assertEqual(ties_of(still((3, 3)), 200), [])
        web = web_of(3, [(0, 2, -1, 99), (0, 2, -1, 99), (1, 2, -1, 99), (1, 2, -1, 99)], [(4, 4), (4, 5), ()])
        told = Run(web, (0,) * 4, rains=[DRY] * 3)
        self.assertEqual(ties_of(told, 2), [(0, 1), (1, 1)])

    def test_a_place_with_one_bed_or_none(self):
        told = Run(web_of(2, [(0, 1, 0, 1)], [(1,), ()]), (0,), rains=[DRY] * 2)
        self.assertEqual(ties_of(told, 200), [])

    def test_ahead_of_the_last_day(self):
        self.assertEqual(ties_of(swaying(), 5), [(0, 0), (2, 0), (4, 0)])
        self.assertEqual(ties_of(swaying(), 4), [(0, 0), (2, 0)])

    def test_behind_the_digs_of_the_day(self):
        told = still()
        told = Run(told.web, (5, 0), rains=told.rains, digs=((3, 1, 5), (6, 0, 1)))
        self.assertEqual(ties_of(told, 200), [(3, 0), (4, 0), (5, 0)])

    def test_turned_ties_are_told_still(self):
        told = still()
        self.assertEqual(ties_of(turn(turn(told, 0, 0), 7, 0), 9), ties_of(told, 9))

    def test_no_number_of_days(self):
        for thing in plain.odd_things() + [-1, 201, 10 ** 15, "9", plain.shares(3)]:
            with self.assertRaises(NoDay):
                ties_of(still(), thing)

    def test_a_new_list_each_time(self):
        told = still()
        found = ties_of(told, 4)
        kept = list(found)
        found.clear()
        self.assertEqual(ties_of(told, 4), kept)

    def test_ties_beyond_the_first_days(self):
        told = Run(still().web, (0, 5), rains=still().rains, digs=((200, 0, 5), (199, 1, 1), (200, 1, -1)))
        self.assertEqual(ties_of(told, 200), [])
        told = Run(still().web, (0, 5), rains=still().rains, digs=((199, 0, 5),))
        self.assertEqual(ties_of(told, 200), [(199, 0)])


class TestTurn(Chances):
    def test_once_and_once_more(self):
        told = tipping()
        other = turn(told, 4, 0)
        self.assertEqual(told.leads(0), always(1))
        self.assertEqual(other.leads(0), course((4, (1,)), (None, (0,))))
        self.assertEqual(other.ties(0), course((5, (1,)), (None, (0,))))
        self.same(turn(other, 4, 0), told)
        self.same(other, Run(told.web, told.depths, rains=told.rains, turned=((4, 0),)))
        self.assertEqual(told.leads(0), always(1))
        told = swaying()
        other = turn(told, 4, 0)
        self.assertEqual(told.leads(0), always(1, 0))
        self.assertEqual(other.leads(0), course((4, (1, 0)), (2, (0, 1)), (None, (1, 0))))
        self.same(turn(other, 4, 0), told)

    def test_two_in_any_order(self):
        told = still(many=2)
        one, other = turn(turn(told, 5, 1), 3, 0), turn(turn(told, 3, 0), 5, 1)
        self.same(one, other)
        self.same(turn(one, 5, 1), turn(told, 3, 0))
        self.assertEqual(one.leads(0), course((3, (1,)), (1, (0,)), (None, (1,))))
        self.assertEqual(one.leads(1), course((5, (1,)), (1, (0,)), (None, (1,))))

    def test_all_else_stays(self):
        told = Run(still().web, (0, 0), rains=still().rains, digs=((9, 0, 1), (12, 1, 1)), turned=((2, 0), (500, 0)))
        other = turn(told, 15, 0)
        self.same(other, Run(told.web, (0, 0), rains=still().rains, digs=((9, 0, 1), (12, 1, 1)),
                             turned=((2, 0), (15, 0), (500, 0))))

    def test_a_tie_at_like_parts(self):
        told = still((3, 3))
        other = turn(told, 3, 0)
        self.assertEqual(other.leads(0), course((3, (1,)), (1, (0,)), (None, (1,))))
        self.assertEqual(other.water_of(1), told.water_of(1))

    def test_on_far_days(self):
        told = still()
        for day in (0, 201, FAR):
            other = turn(told, day, 0)
            self.assertEqual(on(other.leads(0), day), plain.shares(0)[0])
            self.same(turn(other, day, 0), told)

    def test_twenty_and_one_more(self):
        told = still()
        for day in range(20):
            told = turn(told, day, 0)
        for day in (20, FAR, 21):
            with self.assertRaises(NoTurned):
                turn(told, day, 0)
        fewer = turn(told, 7, 0)
        self.assertEqual(on(fewer.leads(0), 7), plain.shares(1)[0])
        turn(fewer, 20, 0)
        with self.assertRaises(NoTie):
            turn(told, FAR + 1, 0)

    def test_no_tie(self):
        told = swaying()
        for day, place in ((1, 0), (3, 0), (FAR + 1, 0), (FAR + 2, 0), (10 ** 15, 0), (-2, 0), (0, 1), (0, 2),
                           (0, 3), (0, -1), (0, 10 ** 9)):
            for work in (turn, matters):
                with self.assertRaises(NoTie):
                    work(told, day, place)
        for thing in plain.odd_things() + [plain.shares(0)[0], "0", told]:
            for work in (turn, matters):
                with self.assertRaises(NoTie):
                    work(told, thing, 0)
                with self.assertRaises(NoTie):
                    work(told, 0, thing)
        turn(told, FAR, 0)

    def test_a_turned_day_that_has_no_tie_any_more(self):
        # It stands in turned, but there is no tie on this day.
        told = Run(still().web, (5, 0), rains=still().rains, turned=((3, 0),))
        with self.assertRaises(NoTie):
            turn(told, 3, 0)

    def test_a_turned_run_that_is_too_long(self):
        # Turned on a day with water, the water of place 0 goes down to place 1 for ever, and with the rain on it lets
        # its beds go to and fro by rounds of 72 days.
        beds = [(0, 2, -1, 2), (0, 1, -1, 1), (1, 2, 1, 6), (1, 2, 1, 2)]
        web = web_of(3, beds, [(1, 0), (0, 1), ()])
        told = Run(web, (0,) * 4, rains=[always(*[0] * 7, 1), always(0, 0, 1), DRY])
        self.assertEqual(told.leads(0), always(1))
        for day in (7, 15, FAR - 1):
            for work in (turn, matters):
                with self.assertRaises(TooLong) as caught:
                    work(told, day, 0)
                self.assertEqual(caught.exception.place, 1)
        self.assertEqual(turn(told, 8, 0).leads(0), course((8, (1,)), (1, (0,)), (None, (1,))))
        self.assertIs(matters(told, 8, 0), False)


class TestMatters(Chances):
    def test_where_the_same_goes_on(self):
        told = still()
        self.assertIs(matters(told, 0, 0), False)
        self.assertIs(matters(told, FAR, 0), False)

    def test_where_the_other_one_wins(self):
        told = tipping()
        for day in (0, 5, FAR):
            self.assertIs(matters(told, day, 0), True)
            self.assertEqual(turn(told, day, 0).wins(0), (1, day))
        self.assertIs(matters(turn(told, 5, 0), 5, 0), True)
        # Where it is turned on an earlier day anyway, a later one is no tie any more.
        with self.assertRaises(NoTie):
            matters(turn(told, 5, 0), 6, 0)
        self.assertIs(matters(turn(told, 5, 0), 4, 0), False)

    def test_where_it_is_made_good(self):
        told = swaying()
        self.assertIs(matters(told, 0, 0), False)
        self.assertIs(matters(told, FAR, 0), False)
        with self.assertRaises(NoTie):
            matters(told, 1, 0)

    def test_where_the_same_goes_on_some_days_later(self):
        # The water comes round in three days; by the turned tie the choice is a day of it behind.
        found = 0
        for word in product((0, 1, 2, 3), repeat=3):
            for low, high in ((0, 1), (0, 2), (1, 2), (1, 3)):
                web = web_of(3, [(0, 1, 0, 1), (0, 2, low, high)], [(0, 1), (), ()])
                told = Run(web, (0, 0), rains=[always(*word), DRY, DRY])
                other = turn(told, 0, 0)
                late = [later(each.leads(0), 600) for each in (told, other)]
                self.assertIs(matters(told, 0, 0), late[0] != late[1])
                size = told.end_of(0)[1]
                found += late[0] != late[1] and any(late[0] == later(late[1], by) for by in range(1, size))
        self.assertGreater(found, 0)

    def test_of_a_place_below(self):
        # Place 0 is the same again on the next day; the water of the turned day tips place 1 for ever.
        beds = [(0, 1, -1, 99), (0, 2, -1, 99), (1, 2, -1, 99), (1, 2, -1, 1)]
        web = web_of(3, beds, [(0, 1), (0, 1), ()])
        told = Run(web, (0,) * 4, rains=[always(1), DRY, DRY])
        other = turn(told, 3, 0)
        self.assertEqual(settled(told, other, 0), 4)
        self.assertIsNone(settled(told, other, 1))
        self.assertEqual(other.leads(1), course((4, (1,)), (None, (0,))))
        self.assertIs(matters(told, 3, 0), True)
        self.assertIs(matters(told, FAR, 0), True)
        # Without any water a turned tie of place 1 lasts but for its day.
        self.assertIs(matters(told, 3, 1), False)
        # A second one changes nothing more, be it later or ahead.
        self.assertIs(matters(other, 9, 0), False)
        self.assertIs(matters(other, 1, 0), False)

    def test_against_the_walk(self):
        rng = random.Random(141)
        told = {True: 0, False: 0}
        days = 420
        while sum(told.values()) < 350:
            setting = plain_run.draw(rng, apart=(0, 2), stretches=(1, 2), days=(1, 20), turned=2)
            try:
                run = setting.run()
            except TooLong:
                continue
            walked = Walked(setting, days)
            ties = [(day, place) for place in setting.forks() for day in range(50) if walked.ties[place][day]]
            if not ties:
                continue
            day, place = rng.choice(ties)
            turned = tuple(sorted({*setting.turned} ^ {(day, place)}))
            other = Setting(setting.many, setting.beds, setting.parts, setting.depths, setting.rains, setting.digs,
                            turned)
            try:
                other_run = turn(run, day, place)
            except TooLong:
                with self.assertRaises(TooLong):
                    matters(run, day, place)
                with self.assertRaises(TooLong):
                    other.run()
                continue
            self.same(other_run, other.run())
            theirs = Walked(other, days)
            for fork in setting.forks():
                self.assertEqual([fraction(on(other_run.leads(fork), each)) for each in range(100)],
                                 theirs.leads[fork][:100])
            late = [each for fork in setting.forks() for each in range(days - 130, days)
                    if walked.leads[fork][each] != theirs.leads[fork][each]]
            answer = matters(run, day, place)
            ends = [one.end_of(fork)[0] for one in (run, other_run) for fork in setting.forks()]
            if max(ends) < days - 130:
                self.assertIs(answer, bool(late))
                told[answer] += 1
        self.assertGreater(told[True], 15)
        self.assertGreater(told[False], 40)
