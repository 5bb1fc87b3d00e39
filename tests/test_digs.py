"""Digs: the fewest after which a bed wins (8.1), and by how much one that wins stays deeper (8.2)."""

import random
import time
import unittest
from itertools import product

import plain
import plain_run
from plain import always, course
from plain_run import Setting, Walked, web_of

from rillweb.courses import Course
from rillweb.digs import fewest, margin
from rillweb.errors import NoBed, NoDepths, NoDigs, NoPlace, NoRain, TooLong
from rillweb.runs import Run
from rillweb.shares import Share

FAR = 10 ** 12
DRY = always(0)
SEVEN = always(1, 2, 3, 4, 5, 6, 7)
ELEVEN = always(*range(11))


def fork(parts=(1, 0), first=(0, 1), second=(0, 1)):
    """A place with two beds to two lakes: whoever is first stays so, if nothing else is told."""
    return web_of(3, [(0, 1, *first), (0, 2, *second)], [parts, (), ()])


def rains(*some, many=3):
    """Rains on the first places, and none on the others."""
    return [*some] + [DRY] * (many - len(some))


def steps_off(depths, steps):
    """All depths that differ by just so many steps, sorted."""
    ways = product(range(-steps, steps + 1), repeat=len(depths))
    return sorted(tuple(map(sum, zip(depths, way))) for way in ways if sum(map(abs, way)) == steps)


def is_won(web, depths, courses, bed):
    """Whether a bed wins in a run; not where it is refused."""
    try:
        run = Run(web, depths, rains=courses)
    except (NoDepths, TooLong):
        return False
    won = run.wins(web.beds[bed][0])
    return won is not None and won[0] == bed


def plain_fewest(web, depths, courses, bed, most):
    """The fewest digs of all runs there are."""
    for steps in range(most + 1):
        for dug in steps_off(depths, steps):
            if is_won(web, dug, courses, bed):
                return (steps, dug)
    return None


class Digs(unittest.TestCase):
    def refused(self, kind, call):
        with self.assertRaises(kind) as caught:
            call()
        return caught.exception


class TestFewest(Digs):
    def told(self, depths, bed, most, web=None, amounts=None):
        web = web or fork()
        return fewest(web, depths, rains=amounts or rains(always(1)), bed=bed, most=most)

    def test_none_as_it_is_one_and_two(self):
        self.assertEqual(self.told((0, 0), 0, 0), (0, (0, 0)))
        self.assertEqual(self.told((0, 0), 0, 2), (0, (0, 0)))
        self.assertEqual(self.told((0, 1), 0, 0), None)
        self.assertEqual(self.told((0, 1), 0, 1), (1, (0, 0)))
        self.assertEqual(self.told((0, 1), 0, 2), (1, (0, 0)))
        self.assertEqual(self.told((0, 2), 0, 1), None)
        self.assertEqual(self.told((0, 2), 0, 2), (2, (0, 0)))
        self.assertEqual(self.told((0, 3), 0, 2), None)

    def test_the_least_of_those_with_the_fewest_steps(self):
        self.assertEqual(self.told((0, 0), 1, 1), (1, (-1, 0)))
        self.assertEqual(self.told((1, 0), 1, 2), (2, (-1, 0)))
        self.assertEqual(self.told((2, 0), 1, 2), None)
        # The bed behind is the one that is dug: a lesser tuple than that with the bed ahead made shallower is none.
        self.assertEqual(self.told((5, 7), 0, 2), (2, (5, 5)))

    def test_over_all_beds_together(self):
        # Two places one below the other: at the lower one bed 2 is first by two, or where the upper one is turned.
        web = web_of(4, [(0, 1, 0, 1), (0, 3, 0, 1), (1, 2, 0, 1), (1, 3, -1, 1)], [(1, 0), (1, 0), (), ()])
        amounts = rains(always(1), many=4)
        for depths in product((0, 1, 2), repeat=4):
            for bed in range(4):
                expected = plain_fewest(web, depths, amounts, bed, 2)
                self.assertEqual(self.told(depths, bed, 2, web, amounts), expected)

    def test_at_the_least_and_the_most_depths(self):
        self.assertEqual(self.told((-FAR, -FAR), 1, 1), (1, (-FAR, -FAR + 1)))
        self.assertEqual(self.told((-FAR + 1, -FAR), 1, 2), (2, (-FAR, -FAR + 1)))
        self.assertEqual(self.told((-FAR + 2, -FAR), 1, 2), None)
        self.assertEqual(self.told((FAR, FAR), 1, 2), (1, (FAR - 1, FAR)))
        self.assertEqual(self.told((FAR, FAR - 1), 1, 2), (2, (FAR - 2, FAR - 1)))
        self.assertEqual(self.told((FAR - 1, FAR), 0, 2), (1, (FAR - 1, FAR - 1)))
        self.assertEqual(self.told((FAR, -FAR), 0, 2), (0, (FAR, -FAR)))
        # A bed alone at its place: it need not be dug.
        web = web_of(3, [(0, 1, 0, 1), (1, 2, 0, 1), (1, 2, 0, 1)], [(1,), (1, 0), ()])
        self.assertEqual(self.told((-FAR, 0, 0), 2, 2, web), (1, (-FAR, -1, 0)))
        self.assertEqual(self.told((FAR, 0, 1), 1, 2, web), (1, (FAR, 0, 0)))

    def test_too_long_counts_as_not_won(self):
        # Where bed 0 is first, rounds of seven and eleven come together.
        web = fork()
        amounts = [SEVEN, ELEVEN, DRY]
        self.refused(TooLong, lambda: Run(web, (0, 0), rains=amounts))
        self.assertEqual(self.told((0, 0), 0, 2, web, amounts), None)
        self.assertEqual(self.told((0, 1), 0, 2, web, amounts), None)
        self.assertEqual(self.told((0, 0), 1, 2, web, amounts), (1, (-1, 0)))

    def test_too_long_at_a_place_beside(self):
        web = web_of(5, [(0, 2, 0, 1), (0, 3, 0, 1), (1, 4, 0, 1), (1, 4, 0, 1)], [(1, 0), (1, 0), (), (), ()])
        amounts = [SEVEN, always(1), ELEVEN, DRY, DRY]
        self.assertEqual(self.told((0, 1, 0, 1), 3, 2, web, amounts), (0, (0, 1, 0, 1)))
        self.assertEqual(self.told((0, 0, 0, 1), 3, 0, web, amounts), None)
        self.assertEqual(self.told((0, 0, 0, 1), 3, 2, web, amounts), (1, (-1, 0, 0, 1)))
        self.assertEqual(self.told((1, 0, 0, 1), 3, 1, web, amounts), None)
        self.assertEqual(self.told((1, 0, 0, 1), 3, 2, web, amounts), (2, (-1, 0, 0, 1)))
        self.assertEqual(self.told((0, 0, 0, 0), 3, 2, web, amounts), (2, (-1, 0, -1, 0)))
        # The place is ahead of the one that is too long, and so are both sides of its choice.
        for bed in (0, 2):
            self.assertEqual(self.told((2, 0, 0, 0), bed, 1, web, amounts), None)

    def test_against_all_runs(self):
        rng = random.Random(801)
        counts = {}
        for _ in range(700):
            setting = plain_run.draw(rng, places=(2, 5), digs=0, turned=0, apart=(0, 3), word=(1, rng.choice((2, 4, 11))),
                                     stretches=(1, 2))
            if not setting.forks() or len(setting.beds) > 7:
                continue
            web, courses = setting.web(), setting.courses()
            bed = rng.choice(setting.beds_of(rng.choice(setting.forks())))
            most = rng.choice((0, 1, 1, 2))
            told = fewest(web, setting.depths, rains=courses, bed=bed, most=most)
            self.assertEqual(told, plain_fewest(web, setting.depths, courses, bed, most))
            kind = (most, told and told[0])
            counts[kind] = counts.get(kind, 0) + 1
            if told is not None:
                self.walks_so(setting, told[1], bed)
        self.assertTrue(all(counts.get(kind, 0) > 3 for kind in ((0, 0), (1, 1), (2, 1), (2, None))), counts)
        self.assertGreater(counts.get((2, 2), 0), 0)

    def walks_so(self, setting, depths, bed):
        """On a plain walk the bed is first from its day on."""
        place = setting.beds[bed][0]
        day = Run(setting.web(), depths, rains=setting.courses()).wins(place)[1]
        walked = Walked(setting, day + 40, 0, depths)
        lead = 1 if bed == setting.beds_of(place)[0] else 0
        self.assertEqual(walked.leads[place][day:], [lead] * 40)
        self.assertNotEqual(walked.leads[place][max(0, day - 1):day], [lead])

    def test_beds_of_a_place_with_two_alone(self):
        web = web_of(3, [(0, 1, 0, 1), (1, 2, 0, 1), (1, 2, 0, 1)], [(1,), (1, 0), ()])
        for thing in plain.odd_things() + [0, -1, 3, FAR, Share(1)]:
            error = self.refused(NoBed, lambda: self.told((0, 0, 0), thing, 1, web))
            self.assertIs(error.bed, thing)
        self.assertEqual(self.told((0, 0, 0), 1, 1, web), (0, (0, 0, 0)))

    def test_numbers_of_digs(self):
        for thing in plain.odd_things() + [3, -1, FAR, Share(1)]:
            self.refused(NoDigs, lambda: self.told((0, 0), 1, thing))

    def test_depths_and_rains_as_a_run_wants_them(self):
        web = fork()
        fine = rains(always(1))
        for thing in plain.odd_things() + [(FAR + 1, 0), (0, -FAR - 1), (0,), [0, 0], (0, None)]:
            if thing != (0, 1):
                self.refused(NoDepths, lambda: fewest(web, thing, rains=fine, bed=0, most=0))
        long = [(30, (step,)) for step in range(10)]
        amiss = [fine[:2], tuple(fine), [*fine, DRY], [DRY, DRY, None], rains(always(1, -1)), rains(always(*range(13))),
                 rains(course(*long, (None, (1,))))]
        for thing in plain.odd_things() + amiss:
            self.refused(NoRain, lambda: fewest(web, (0, 0), rains=thing, bed=0, most=0))
            self.refused(NoRain, lambda: Run(web, (0, 0), rains=thing))
        # However it is written: by twenty stretches, by a word of twenty-four, with words that are cut short.
        twenty = course(*[(2, (1, 2))] * 20, (None, (1, 2)))
        for rain in (twenty, always(*(1, 2) * 12), course((1, (1, -1)), (None, (2, 1)))):
            self.assertEqual(fewest(web, (0, 1), rains=rains(rain), bed=0, most=2), (1, (0, 0)))

    def test_refused_in_their_order(self):
        web = fork()
        given = [("depths", NoDepths, (0, 0)), ("rains", NoRain, rains(DRY)), ("bed", NoBed, 1), ("most", NoDigs, 0)]
        for at, (_, kind, _) in enumerate(given):
            # One is amiss, and all behind it.
            fine = {name: thing if here < at else None for here, (name, _, thing) in enumerate(given)}
            depths = fine.pop("depths")
            self.refused(kind, lambda: fewest(web, depths, **fine))
        with self.assertRaises(TypeError):
            fewest(web, (0, 0), rains(DRY), 1, 0)

    def test_nothing_is_changed(self):
        web, amounts, depths = fork(), rains(always(1)), (0, 1)
        kept = list(amounts)
        for _ in range(2):
            self.assertEqual(fewest(web, depths, rains=amounts, bed=0, most=2), (1, (0, 0)))
        self.assertEqual((amounts, web), (kept, fork()))

    def test_time_of_the_largest(self):
        rng = random.Random(802)
        for many, days, apart in ((5, 200, 9), (5, FAR, FAR), (8, 50, 2), (8, 10 ** 9, 10 ** 6)):
            turns = [rng.randint(1, days) for _ in range(9)]
            forks = 3 if many == 5 else 6
            beds, parts = [], []
            for place in range(many):
                here = 2 if place < forks else 1 if place == forks and many == 5 else 0
                for _ in range(here):
                    low = rng.randint(-1, 9)
                    beds.append((place, rng.randint(place + 1, many - 1), low, low + rng.randint(1, 5)))
                parts.append(tuple(rng.randint(1, 9) for _ in range(here)))
            web = web_of(many, beds, parts)
            amounts = [Course([*zip(turns, words), (None, plain.shares(*range(6)))])
                       for words in [[plain.shares(*[rng.randint(0, 9) for _ in range(12)]) for _ in turns]
                                     for _ in range(many)]]
            depths = tuple(rng.randint(-apart, apart) for _ in beds)
            for bed in range(2 * forks):
                begun = time.perf_counter()
                fewest(web, depths, rains=amounts, bed=bed, most=2)
                # A second or so at the most; some more is let go.
                self.assertLess(time.perf_counter() - begun, 8)


class TestMargin(Digs):
    def run_of(self, web, depths, *some, **kinds):
        return Run(web, depths, rains=rains(*some, many=web.many), **kinds)

    def test_a_bed_that_drifts_away(self):
        self.assertEqual(margin(self.run_of(fork(), (3, 0), always(1)), 0), 3)
        self.assertEqual(margin(self.run_of(fork(), (0, 0), always(1)), 0), 0)
        self.assertEqual(margin(self.run_of(fork(), (0, 1), always(1)), 0), 1)
        self.assertEqual(margin(self.run_of(fork(), (-FAR, FAR), always(1)), 0), 2 * FAR)
        self.assertEqual(margin(self.run_of(fork(), (7, 5), DRY), 0), 2)

    def test_from_the_least_day_on_alone(self):
        # Bed 0 falls until bed 1 is first, which stays as it is: by one deeper on the day on which it is first.
        run = self.run_of(fork(first=(1, 9), second=(-1, 5)), (5, 0), always(1))
        self.assertEqual((run.wins(0), margin(run, 0)), ((1, 6), 1))
        # It goes on by two a day.
        run = self.run_of(fork(first=(1, 9), second=(-1, 1)), (4, 0), always(1))
        self.assertEqual((run.wins(0), margin(run, 0)), ((1, 5), 1))

    def test_narrowest_behind_the_least_day(self):
        # Bed 0 goes to and fro, by three steps up and then three down.
        swaying = fork(first=(1, 2), second=(-1, 9))
        run = self.run_of(swaying, (5, 0), always(1, 1, 1, 2, 2, 2))
        self.assertEqual((run.wins(0), margin(run, 0)), ((0, 0), 2))
        run = self.run_of(swaying, (5, 0), always(2, 2, 2, 1, 1, 1))
        self.assertEqual((run.wins(0), margin(run, 0)), ((0, 0), 5))
        run = self.run_of(swaying, (5, 0), course((FAR, (2, 1)), (None, (1, 1, 1, 2, 2, 2))))
        self.assertEqual((run.wins(0), margin(run, 0)), ((0, 0), 2))
        # At the end of a stretch in which it comes nearer all the time.
        run = self.run_of(swaying, (FAR, 0), course((10 ** 11 + 1, (1, 1, 2)), (None, (2,))))
        self.assertEqual((run.wins(0), margin(run, 0)), ((0, 0), FAR - (10 ** 11 + 1) // 3 - 2))

    def test_digs_behind_the_least_day(self):
        swaying = fork(first=(1, 2), second=(-1, 9))
        word = (2, 2, 2, 1, 1, 1)
        run = self.run_of(swaying, (5, 0), always(*word), digs=((600, 1, 1), (609, 0, -2), (610, 1, -1)))
        # On day 609 the gap is 5 + 3 - 1 - 2, and on day 610 dug to 5 + 2 - 2; it is 3 from there on.
        self.assertEqual((run.wins(0), margin(run, 0)), ((0, 0), 3))
        run = self.run_of(swaying, (5, 0), always(*word), digs=((600, 1, 4), (601, 1, -4)))
        self.assertEqual((run.wins(0), margin(run, 0)), ((0, 0), 1))
        # Nearest are the mornings on which the word begins again.
        run = self.run_of(swaying, (5, 0), always(*word), digs=((FAR, 1, 5), (FAR, 1, -1), (FAR - 1, 0, 1)))
        self.assertEqual((run.wins(0), margin(run, 0)), ((0, 0), 5 - 5 + 1 + 1))
        # The days ahead of the least one don't count. Bed 0 falls for 90 days, and is then dug.
        steady = fork(first=(1, 3), second=(-1, 9))
        run = self.run_of(steady, (1, 0), always(2), digs=((9, 1, 95), (99, 0, 99)))
        self.assertEqual((run.wins(0), margin(run, 0)), ((1, 9), 94 + 90 - 99))
        run = self.run_of(steady, (1, 0), always(2), digs=((9, 1, 95), (99, 0, 80)))
        self.assertEqual((run.wins(0), margin(run, 0)), ((1, 9), 94))

    def test_digs_of_both_beds_on_one_day(self):
        run = self.run_of(fork(), (5, 3), DRY, digs=((4, 1, 9), (4, 0, 9), (8, 0, -1), (8, 1, -1), (8, 1, 1)))
        self.assertEqual((run.wins(0), margin(run, 0)), ((0, 0), 1))

    def test_a_turned_tie_is_the_nearest(self):
        run = self.run_of(fork(parts=(1, 0), first=(0, 1), second=(0, 1)), (0, 0), always(1), turned=((0, 0),))
        self.assertEqual((run.wins(0), margin(run, 0)), ((1, 0), 0))

    def test_a_win_beyond_the_last_day(self):
        web = fork(first=(1, 9), second=(-1, 5))
        rain = course((10 ** 14, (9,)), (None, (2,) * 11 + (1,)))
        run = self.run_of(web, (0, 0), rain)
        self.assertGreater(run.wins(0)[1], 10 ** 15)
        self.assertEqual(run.wins(0)[0], 1)
        self.assertEqual(margin(run, 0), 1)

    def test_nearest_beyond_the_last_day(self):
        # Bed 0 stays for 10 ** 15 days, and then falls by 300.
        web = fork(first=(1, 3), second=(-1, 9))
        run = self.run_of(web, (500, 0), course((10 ** 15 + 7, (2,)), (300, (1,)), (50, (3,)), (None, (2,))))
        self.assertEqual((run.wins(0), margin(run, 0)), ((0, 0), 200))
        run = self.run_of(web, (500, 0), course((10 ** 15 + 7, (2,)), (600, (1,)), (None, (2,))))
        self.assertEqual((run.wins(0), margin(run, 0)), ((1, 10 ** 15 + 7 + 501), 1))

    def test_far_days_with_digs(self):
        swaying = fork(first=(1, 2), second=(-1, 9))
        # By one nearer in three days, and a dig on the day on which that ends.
        run = self.run_of(swaying, (FAR, 0), course((FAR, (1, 2, 1)), (None, (1, 2))), digs=((FAR, 0, 7),))
        self.assertEqual(run.wins(0), (0, 0))
        nearest = min(run.depth_on(0, day) - run.depth_on(1, day) for day in range(FAR - 9, FAR + 9))
        self.assertEqual(margin(run, 0), nearest)
        self.assertLessEqual(abs(nearest - (FAR - FAR // 3)), 2)

    def test_against_the_walk(self):
        rng = random.Random(811)
        asked = later = 0
        for number in range(1500):
            setting = plain_run.draw(rng, places=(2, 4), apart=(0, rng.choice((3, 9))), digs=rng.choice((0, 4)),
                                     word=(1, 6))
            try:
                run = setting.run()
            except TooLong:
                continue
            for place in setting.forks():
                won = run.wins(place)
                if won is None:
                    self.assertIs(self.refused(NoPlace, lambda: margin(run, place)).place, place)
                    continue
                begin, size = run.end_of(place)
                walked = Walked(setting, max([begin, won[1], *[day for day, _, _ in setting.digs]]) + 2 * size + 1)
                ahead, other = setting.beds_of(place)
                gaps = [mine - theirs for mine, theirs in zip(walked.depth[ahead], walked.depth[other])][won[1]:]
                nearest = min(gaps) if won[0] == ahead else -max(gaps)
                self.assertEqual(margin(run, place), nearest, number)
                asked += 1
                later += abs(gaps[0]) != nearest
        self.assertGreater(asked, 1000)
        self.assertGreater(later, 20)

    def test_no_places(self):
        web = web_of(4, [(0, 1, 0, 1), (0, 1, 0, 1), (1, 2, 0, 1)], [(1, 0), (1,), (), ()])
        run = self.run_of(web, (1, 0, 0), always(1))
        self.assertEqual(margin(run, 0), 1)
        for thing in plain.odd_things() + [-1, 4, 1, 2, 3, FAR, Share(0)]:
            self.assertIs(self.refused(NoPlace, lambda: margin(run, thing)).place, thing)
        # None wins here: they go to and fro.
        run = self.run_of(fork(parts=(0, 1)), (0, 0), always(1))
        self.assertEqual(self.refused(NoPlace, lambda: margin(run, 0)).place, 0)


if __name__ == "__main__":
    unittest.main()
