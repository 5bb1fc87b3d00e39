"""Led back (7.1, 7.2)."""

import random
import time
import unittest
from fractions import Fraction
from itertools import product

import plain
from plain_run import share
from plain_web import PlainWeb, about, draw_large, draw_web, plain_stretch, probes, rain_of, stretch_of

from rillweb.back import before, before_any, rains_between
from rillweb.errors import NoDepths, NoPlace, NoRain
from rillweb.shares import Share
from rillweb.webs import step

FROM_0_ON = (Fraction(0), True, None, False)
LONG = 10 ** 30 + 7


def fork(*, parts=(1, 3), low=0, high=5, other_low=1, other_high=5):
    """A place with two beds, to two lakes."""
    return PlainWeb(3, [(0, 1, low, high), (0, 2, other_low, other_high)], [parts, (), ()])


def swinging(forks=6):
    """Forks of which the first bed gets nothing and falls, the other one rises: two mornings ahead of each tie."""
    beds = [(place, end, 0, 1) for place in range(forks) for end in (place + 1, 7)]
    return PlainWeb(8, beds, [(0, 1)] * forks + [()] * (8 - forks))


class Back(unittest.TestCase):
    def no_depths_of_two(self):
        """Things of many kinds that are no depths of two beds."""
        things = [thing for thing in plain.odd_things() if thing != (0, 1)]
        return things + [(1,), (1, 2, 3), [1, 2], (True, 1), (1, None), (1, "2")]

    def refused(self, kind, call):
        with self.assertRaises(kind) as caught:
            call()
        return caught.exception


class TestBefore(Back):
    def check(self, plain_web, depths, rain):
        """What is told is what all depths a step off lead to."""
        expected = [earlier for earlier in about(depths) if plain_web.step(earlier, rain) == depths]
        self.assertEqual(before(plain_web.web(), depths, rain=rain_of(rain)), expected)
        return len(expected)

    def test_all_depths_a_step_off(self):
        rng = random.Random(701)
        counts = {}
        for _ in range(2500):
            plain_web = draw_web(rng)
            rain = [Fraction(rng.choice((0, 1, 1, 2, 3)), rng.choice((1, 1, 2))) for _ in range(plain_web.many)]
            depths = tuple(rng.randint(-2, 2) for _ in plain_web.beds)
            many = self.check(plain_web, depths, rain)
            counts[many] = counts.get(many, 0) + 1
        self.assertTrue(all(counts.get(many, 0) > 50 for many in (0, 1, 2)), counts)

    def test_more_beds(self):
        rng = random.Random(702)
        found = []
        for _ in range(40):
            plain_web = draw_web(rng, places=(4, 8), most=7)
            rain = [Fraction(rng.randint(0, 6), 2) for _ in range(plain_web.many)]
            found.append(self.check(plain_web, tuple(rng.randint(-1, 1) for _ in plain_web.beds), rain))
        self.assertGreater(max(found), 1)

    def test_the_morning_begun_with_is_among_them(self):
        rng = random.Random(703)
        for _ in range(300):
            plain_web = draw_large(rng, *rng.choice(((5, 2), (6, 0), (4, 3))))
            web = plain_web.web()
            rain = rain_of([rng.randint(0, 9) for _ in range(8)])
            apart = rng.choice((1, 3, LONG))
            depths = tuple(rng.randint(-apart, apart) for _ in web.beds)
            later = step(web, depths, rain=rain)
            found = before(web, later, rain=rain)
            self.assertIn(depths, found)
            self.assertEqual(found, sorted(set(found)))
            for earlier in found:
                self.assertEqual(step(web, earlier, rain=rain), later)

    def test_each_row_of_who_was_first(self):
        # All that can lead here comes of one of the rows of who was first.
        rng = random.Random(704)
        for _ in range(40):
            plain_web = draw_large(rng, *rng.choice(((5, 2), (6, 0))))
            rain = [Fraction(rng.randint(0, 9)) for _ in range(8)]
            depths = tuple(rng.randint(-1, 1) for _ in plain_web.beds)
            ahead = {tuple(depth - move for depth, move in zip(depths, plain_web.moves(leads, rain)))
                     for leads in plain_web.rows()}
            expected = sorted(earlier for earlier in ahead if plain_web.step(earlier, rain) == depths)
            self.assertEqual(before(plain_web.web(), depths, rain=rain_of(rain)), expected)

    def test_sixty_four_mornings(self):
        plain_web = swinging()
        web = plain_web.web()
        rain = rain_of([1] * 8)
        found = before(web, (LONG,) * 12, rain=rain)
        self.assertEqual(len(found), 64)
        pairs = ((LONG + 1, LONG - 1), (LONG - 1, LONG + 1))
        self.assertEqual(found, sorted(sum(row, ()) for row in product(pairs, repeat=6)))
        pairs = ((1, 0), (-1, 2))
        self.assertEqual(before(web, (0, 1) * 6, rain=rain), sorted(sum(row, ()) for row in product(pairs, repeat=6)))

    def test_none_leads_here(self):
        # The deeper bed gets all: it rises, the other one falls, so they are never of one depth in the morning.
        plain_web = fork(parts=(1, 0), high=1, other_low=0, other_high=1)
        self.assertEqual(before(plain_web.web(), (0, 0), rain=rain_of((1, 0, 0))), [])
        self.assertEqual(before(plain_web.web(), (1, 0), rain=rain_of((1, 0, 0))), [])
        self.assertEqual(before(plain_web.web(), (1, -1), rain=rain_of((1, 0, 0))), [(0, 0)])
        self.assertEqual(before(plain_web.web(), (0, 1), rain=rain_of((1, 0, 0))), [])
        self.assertEqual(before(plain_web.web(), (0, 2), rain=rain_of((1, 0, 0))), [])
        self.assertEqual(before(plain_web.web(), (0, 3), rain=rain_of((1, 0, 0))), [(1, 2)])

    def test_a_tie_and_a_step_off_it(self):
        plain_web = fork(parts=(0, 1), low=0, high=1, other_low=0, other_high=1)
        web = plain_web.web()
        rain = rain_of((1, 0, 0))
        self.assertEqual(before(web, (0, 0), rain=rain), [(-1, 1), (1, -1)])
        self.assertEqual(before(web, (1, 0), rain=rain), [(0, 1), (2, -1)])
        self.assertEqual(before(web, (2, 0), rain=rain), [(3, -1)])
        self.assertEqual(before(web, (0, 1), rain=rain), [(-1, 2), (1, 0)])
        self.assertEqual(before(web, (0, 2), rain=rain), [(-1, 3), (1, 1)])
        self.assertEqual(before(web, (0, 3), rain=rain), [(-1, 4)])
        # The morning ahead is a tie, or was one step to either side of it.
        for depths in product(range(-3, 4), repeat=2):
            self.check(plain_web, depths, [Fraction(1), Fraction(0), Fraction(0)])

    def test_depths_of_thirty_figures(self):
        plain_web = fork(parts=(0, 1), low=0, high=1, other_low=0, other_high=1)
        self.assertEqual(before(plain_web.web(), (LONG, LONG), rain=rain_of((1, 0, 0))),
                         [(LONG - 1, LONG + 1), (LONG + 1, LONG - 1)])
        self.assertEqual(before(plain_web.web(), (-LONG, LONG), rain=rain_of((1, 0, 0))), [(-LONG - 1, LONG + 1)])

    def test_beds_alone_and_lakes_alone(self):
        chain = PlainWeb(3, [(0, 1, 1, 3), (1, 2, 2, 3)], [(7,), (1,), ()]).web()
        self.assertEqual(before(chain, (5, -5), rain=rain_of((1, 1, 9))), [(6, -4)])
        self.assertEqual(before(chain, (5, -5), rain=rain_of((2, 1, 9))), [(5, -6)])
        lakes = PlainWeb(4, [], [()] * 4).web()
        self.assertEqual(before(lakes, (), rain=rain_of((1, 2, 3, 4))), [()])

    def test_marks_below_0_like_parts_and_parts_0(self):
        rng = random.Random(705)
        for parts in ((1, 1), (3, 3), (0, 1), (1, 0), (0, 9)):
            for _ in range(40):
                plain_web = fork(parts=parts, low=rng.choice((-9, -1, 0)), high=rng.choice((Fraction(1, 2), 1)),
                                 other_low=-3, other_high=rng.choice((-1, 0, 1)))
                depths = (rng.randint(-2, 2), rng.randint(-2, 2))
                self.check(plain_web, depths, [Fraction(rng.randint(0, 2)), Fraction(0), Fraction(3)])

    def test_a_new_list_each_time(self):
        web = swinging(2).web()
        rain = rain_of([1] * 8)
        found = before(web, (0,) * 4, rain=rain)
        kept = list(found)
        found.clear()
        self.assertEqual(before(web, (0,) * 4, rain=rain), kept)
        self.assertEqual(len(kept), 4)

    def test_refused_in_their_order(self):
        web = fork().web()
        fine = rain_of((1, 0, 0))
        for thing in self.no_depths_of_two():
            self.refused(NoDepths, lambda: before(web, thing, rain=fine))
            self.refused(NoDepths, lambda: before(web, thing, rain=None))
        for thing in plain.odd_things() + [fine[:2], fine * 2, list(fine), rain_of((1, 0, -1)), (fine[0], 0, fine[0])]:
            self.refused(NoRain, lambda: before(web, (1, 2), rain=thing))

    def test_nothing_is_changed_and_by_name_alone(self):
        web = fork().web()
        beds, parts = list(web.beds), list(web.parts)
        before(web, (1, 2), rain=rain_of((1, 0, 0)))
        self.assertEqual((web.beds, web.parts), (beds, parts))
        with self.assertRaises(TypeError):
            before(web, (1, 2), rain_of((1, 0, 0)))


class TestRainsBetween(Back):
    def check(self, plain_web, depths, place):
        """The stretch has just the amounts that lead there: of all marks, one between each two, and one beyond."""
        web = plain_web.web()
        amounts = probes(plain_web.marks(place))
        found = {}
        for at, amount in enumerate(amounts):
            found.setdefault(plain_web.step(depths, plain_web.alone(place, amount)), []).append(at)
        for later, numbers in found.items():
            told = rains_between(web, depths, later, place=place)
            self.assertEqual(plain_stretch(told), stretch_of(numbers, amounts))
        return web, found

    def test_each_stretch_of_small_webs(self):
        rng = random.Random(711)
        kinds = {}
        for _ in range(800):
            plain_web = draw_web(rng)
            depths = tuple(rng.randint(-1, 1) for _ in plain_web.beds)
            place = rng.randrange(plain_web.many)
            web, found = self.check(plain_web, depths, place)
            for later in about(depths):
                told = rains_between(web, depths, later, place=place)
                self.assertEqual(told is None, later not in found)
                if told is not None:
                    low, has_low, high, has_high = told
                    kind = (has_low, high is None, has_high, high == low)
                    kinds[kind] = kinds.get(kind, 0) + 1
        self.assertGreater(min(kinds.values()), 20)
        # With low or without, and so high; one amount alone; without end, where all beds that bear rise: so with low.
        self.assertEqual(len(kinds), 4 + 1 + 1, kinds)

    def test_large_webs(self):
        rng = random.Random(712)
        for _ in range(60):
            plain_web = draw_large(rng, *rng.choice(((5, 2), (6, 0), (3, 3))))
            depths = tuple(rng.randint(-LONG, LONG) for _ in plain_web.beds)
            self.check(plain_web, depths, rng.choice((0, 0, 0, 2, 5)))

    def test_low_and_high(self):
        web = fork().web()
        # Bed 0 bears a fourth, bed 1 three fourths: marks at 0 and 20, and at 4/3 and 20/3.
        told = {(-1, -1): (0, True, 0, True), (0, -1): (0, False, Fraction(4, 3), True),
                (0, 0): (Fraction(4, 3), False, Fraction(20, 3), False),
                (0, 1): (Fraction(20, 3), True, 20, False), (1, 1): (20, True, None, False)}
        for move in product((-1, 0, 1), repeat=2):
            found = rains_between(web, (5, 3), (5 + move[0], 3 + move[1]), place=0)
            self.assertEqual(plain_stretch(found), told.get(move))

    def test_one_amount_alone(self):
        # By 10 both beds bear 5: the one just its low, the other one just its high.
        web = fork(parts=(1, 1), low=5, high=7, other_low=2, other_high=5).web()
        ten = (Fraction(10), True, Fraction(10), True)
        self.assertEqual(plain_stretch(rains_between(web, (0, 0), (-1, 1), place=0)), ten)
        self.assertEqual(plain_stretch(rains_between(web, (0, 0), (-1, 0), place=0)), (4, False, 10, False))
        self.assertEqual(plain_stretch(rains_between(web, (0, 0), (0, 1), place=0)), (10, False, 14, False))

    def test_from_0_on_or_beyond_it(self):
        web = fork(low=-1, high=1, other_low=-2, other_high=-1).web()
        self.assertEqual(plain_stretch(rains_between(web, (0, 0), (0, 1), place=0)), (0, True, 4, False))
        self.assertIsNone(rains_between(web, (0, 0), (0, 0), place=0))
        web = fork(low=0, high=1, other_low=-2, other_high=9).web()
        self.assertEqual(plain_stretch(rains_between(web, (0, 0), (-1, 0), place=0)), (0, True, 0, True))
        self.assertEqual(plain_stretch(rains_between(web, (0, 0), (0, 0), place=0)), (0, False, 4, False))
        web = fork(low=-1, high=0, other_low=-2, other_high=9).web()
        self.assertEqual(plain_stretch(rains_between(web, (0, 0), (1, 0), place=0)), (0, True, 12, False))

    def test_farther_than_a_step(self):
        web = fork().web()
        for later in ((2, 0), (0, -2), (-3, 1), (LONG, 0)):
            self.assertIsNone(rains_between(web, (0, 0), later, place=0))
        lone = fork(parts=(0, 1)).web()
        for later in ((-2, 0), (2, 0), (1, 0), (0, 0)):
            self.assertIsNone(rains_between(lone, (0, 0), later, place=0))

    def test_where_nothing_can_move_otherwise(self):
        lakes = PlainWeb(3, [], [()] * 3).web()
        self.assertEqual(plain_stretch(rains_between(lakes, (), (), place=2)), FROM_0_ON)
        web = fork(low=-1).web()
        for place in (1, 2):
            self.assertEqual(plain_stretch(rains_between(web, (4, 4), (4, 3), place=place)), FROM_0_ON)
            self.assertIsNone(rains_between(web, (4, 4), (4, 4), place=place))

    def test_refused_in_their_order(self):
        web = fork().web()
        for thing in self.no_depths_of_two():
            self.refused(NoDepths, lambda: rains_between(web, thing, (0, 0), place=0))
            self.refused(NoDepths, lambda: rains_between(web, (0, 0), thing, place=0))
            self.refused(NoDepths, lambda: rains_between(web, thing, (0, 0), place=None))
            self.refused(NoDepths, lambda: rains_between(web, (0, 0), thing, place=[]))
        for thing in plain.odd_things() + [-1, 3, LONG, Share(1)]:
            error = self.refused(NoPlace, lambda: rains_between(web, (0, 0), (0, 9), place=thing))
            self.assertIs(error.place, thing)


class TestBeforeAny(Back):
    def check(self, plain_web, depths, place, about_them):
        """Each of all depths handed in that leads here by some amount is told, with its stretch."""
        amounts = probes(plain_web.marks(place))
        rows = {leads: [plain_web.moves(leads, plain_web.alone(place, amount)) for amount in amounts]
                for leads in plain_web.rows()}
        expected = []
        for earlier in about_them:
            wanted = tuple(depth - ahead for depth, ahead in zip(depths, earlier))
            found = [at for at, moves in enumerate(rows[plain_web.leads(earlier)]) if moves == wanted]
            if found:
                expected.append((tuple(earlier), stretch_of(found, amounts)))
        told = before_any(plain_web.web(), depths, place=place)
        self.assertEqual([(earlier, plain_stretch(stretch)) for earlier, stretch in told], expected)
        return len(told)

    def test_all_depths_and_all_amounts(self):
        rng = random.Random(721)
        counts = []
        for _ in range(1200):
            plain_web = draw_web(rng)
            depths = tuple(rng.randint(-2, 2) for _ in plain_web.beds)
            counts.append(self.check(plain_web, depths, rng.randrange(plain_web.many), about(depths)))
        self.assertGreater(sum(many > 3 for many in counts), 100)
        # By the amount 0 all beds bear alike whoever is first, so some depths always lead here.
        self.assertGreater(min(counts), 0)

    def test_more_beds(self):
        rng = random.Random(722)
        for _ in range(25):
            plain_web = draw_web(rng, places=(4, 8), most=6)
            depths = tuple(rng.choice((0, 1, LONG)) for _ in plain_web.beds)
            self.check(plain_web, depths, rng.choice((0, 0, 1)), about(depths))

    def test_the_largest_webs(self):
        rng = random.Random(723)
        for _ in range(12):
            plain_web = draw_large(rng, *rng.choice(((6, 0), (5, 2))))
            depths = tuple(rng.randint(-1, 1) for _ in plain_web.beds)
            marks = probes(plain_web.marks(0))
            near = {tuple(depth - move for depth, move in zip(depths, plain_web.moves(leads, plain_web.alone(0, amount))))
                    for leads in plain_web.rows() for amount in marks}
            self.check(plain_web, depths, 0, sorted(near))

    def test_time_of_the_largest(self):
        rng = random.Random(724)
        begun = time.perf_counter()
        for forks, alone in ((6, 0), (5, 2)) * 3:
            web = draw_large(rng, forks, alone).web()
            before_any(web, (0,) * len(web.beds), place=0)
            before(web, (0,) * len(web.beds), rain=rain_of([1] * 8))
        self.assertEqual(len(before_any(swinging().web(), (0,) * 12, place=7)), 1)
        # A tenth of a second or less for each; far more is let go.
        self.assertLess(time.perf_counter() - begun, 6)

    def test_agrees_with_before_and_rains_between(self):
        rng = random.Random(725)
        for _ in range(300):
            plain_web = draw_web(rng, places=(2, 6), most=8)
            web = plain_web.web()
            depths = tuple(rng.randint(-1, 1) for _ in plain_web.beds)
            place = rng.randrange(plain_web.many)
            told = before_any(web, depths, place=place)
            for earlier, stretch in told:
                again = rains_between(web, earlier, depths, place=place)
                self.assertEqual(plain_stretch(again), plain_stretch(stretch))
            amount = rng.choice(probes(plain_web.marks(place)))
            some = [earlier for earlier, stretch in told if within(amount, plain_stretch(stretch))]
            self.assertEqual(before(web, depths, rain=rain_of(plain_web.alone(place, amount))), some)

    def test_a_tie_by_any_amount(self):
        web = fork(parts=(0, 1), low=0, high=9, other_low=1, other_high=2).web()
        told = [(earlier, plain_stretch(stretch)) for earlier, stretch in before_any(web, (0, 0), place=0)]
        # Who was first bore nothing: bed 0 fell by that, or bed 1, while the other one bore all.
        self.assertEqual(told, [((-1, 1), (9, True, None, False)), ((0, 1), (0, False, 9, False)),
                                ((1, -1), (2, True, None, False)), ((1, 0), (1, False, 2, False)),
                                ((1, 1), (0, True, 1, True))])

    def test_where_no_depths_move_otherwise(self):
        lakes = PlainWeb(3, [], [()] * 3).web()
        self.assertEqual([(earlier, plain_stretch(stretch)) for earlier, stretch in before_any(lakes, (), place=1)],
                         [((), FROM_0_ON)])
        web = fork(low=-1).web()
        told = before_any(web, (4, 4), place=2)
        self.assertEqual([(earlier, plain_stretch(stretch)) for earlier, stretch in told], [((4, 5), FROM_0_ON)])

    def test_a_new_list_each_time(self):
        web = fork().web()
        told = before_any(web, (4, 4), place=0)
        kept = [(earlier, plain_stretch(stretch)) for earlier, stretch in told]
        told.clear()
        again = before_any(web, (4, 4), place=0)
        self.assertEqual([(earlier, plain_stretch(stretch)) for earlier, stretch in again], kept)
        self.assertTrue(kept)

    def test_refused_in_their_order(self):
        web = fork().web()
        for thing in self.no_depths_of_two():
            self.refused(NoDepths, lambda: before_any(web, thing, place=0))
            self.refused(NoDepths, lambda: before_any(web, thing, place={}))
        for thing in plain.odd_things() + [-1, 3, LONG, Share(1)]:
            self.assertIs(self.refused(NoPlace, lambda: before_any(web, (0, 0), place=thing)).place, thing)

    def test_thousands_of_small_ones(self):
        rng = random.Random(726)
        webs = [draw_web(rng) for _ in range(1000)]
        begun = time.perf_counter()
        for plain_web in webs:
            web = plain_web.web()
            depths = tuple(rng.randint(-1, 1) for _ in web.beds)
            before_any(web, depths, place=0)
            before(web, depths, rain=rain_of([1] * web.many))
            rains_between(web, depths, depths, place=0)
        self.assertLess(time.perf_counter() - begun, 20)


def within(amount, stretch):
    """Whether an amount is in a stretch."""
    low, has_low, high, has_high = stretch
    if amount < low or amount == low and not has_low:
        return False
    return high is None or amount < high or amount == high and has_high


class TestOneShareOfAmount(Back):
    def test_shares_of_many_figures(self):
        low = share(Fraction(10 ** 40 + 1, 3))
        plain_web = fork(parts=(7, 2), low=Fraction(10 ** 40 + 1, 3), high=10 ** 41, other_low=0, other_high=1)
        told = rains_between(plain_web.web(), (0, 0), (-1, 1), place=0)
        # Bed 0 bears 7/9, so just its low by 9/7 of it; bed 1 bears 2/9, so its high by 9/2.
        self.assertEqual(plain_stretch(told), (Fraction(9, 2), True, Fraction(9 * low.top, 7 * low.bottom), True))


if __name__ == "__main__":
    unittest.main()
