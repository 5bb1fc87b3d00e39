"""Webs put together: cut (9.1), and joined by pipes (9.2)."""

import random
import unittest

import plain
import plain_run
from plain import always, course
from plain_run import web_of
from plain_web import draw_large, draw_web, rain_of

from rillweb.courses import Course, added, on
from rillweb.errors import NoPlace, NoRain, NoWeb, TooLong
from rillweb.putting import cut, joined
from rillweb.runs import Run
from rillweb.shares import Share
from rillweb.webs import Web, borne, step, water

DRY = always(0)
LOW, HIGH = Share(0), Share(3, 2)


def small():
    """Three places: two beds, one bed, and a lake."""
    return web_of(3, [(0, 1, 0, 5), (0, 2, 1, 5), (1, 2, -3, 4)], [(1, 3), (2,), ()])


def basin():
    """Two places: two beds to one lake."""
    return web_of(2, [(0, 1, 0, 2), (0, 1, 1, 2)], [(1, 2), ()])


def lakes(many):
    """As many lakes, and nothing else."""
    return Web(many, [], [()] * many)


def pipe(start, end):
    """The bed of a pipe between two places of the joined web."""
    return (start, end, Share(-1), Share(10 ** 40))


class TestCut(unittest.TestCase):
    def test_at_0_at_many_and_between(self):
        web = small()
        self.assertEqual(cut(web, 0), lakes(3))
        self.assertEqual(cut(web, 1), web_of(3, [(0, 1, 0, 5), (0, 2, 1, 5)], [(1, 3), (), ()]))
        self.assertEqual(cut(web, 2), web)
        self.assertEqual(cut(web, 3), web)
        self.assertEqual(cut(lakes(1), 0), lakes(1))
        self.assertEqual(cut(lakes(8), 8), lakes(8))

    def test_each_number_of_chance_webs(self):
        rng = random.Random(901)
        for _ in range(200):
            plain_web = rng.choice((draw_large(rng), draw_web(rng, places=(1, 8), most=12)))
            web = plain_web.web()
            for place in range(web.many + 1):
                told = cut(web, place)
                expected = web_of(web.many, [bed for bed in plain_web.beds if bed[0] < place],
                                  [parts if at < place else () for at, parts in enumerate(plain_web.parts)])
                self.assertEqual(told, expected)
                self.assertIsInstance(told, Web)
                for other in range(web.many + 1):
                    self.assertEqual(cut(told, other), cut(web, min(place, other)))

    def test_beds_bear_and_move_as_in_the_whole(self):
        rng = random.Random(902)
        for _ in range(150):
            web = draw_web(rng, places=(2, 8), most=12).web()
            place = rng.randint(0, web.many)
            told = cut(web, place)
            many = len(told.beds)
            depths = tuple(rng.randint(-2, 2) for _ in web.beds)
            rain = rain_of([rng.randint(0, 5) for _ in range(web.many)])
            self.assertEqual(borne(told, depths[:many], rain=rain), borne(web, depths, rain=rain)[:many])
            self.assertEqual(step(told, depths[:many], rain=rain), step(web, depths, rain=rain)[:many])
            self.assertEqual(water(told, depths[:many], rain=rain)[:place + 1],
                             water(web, depths, rain=rain)[:place + 1])

    def test_runs_as_in_the_whole(self):
        rng = random.Random(903)
        compared = 0
        for _ in range(150):
            setting = plain_run.draw(rng, places=(3, 5), digs=0, turned=0)
            web, courses = setting.web(), setting.courses()
            place = rng.randint(0, web.many)
            told = cut(web, place)
            many = len(told.beds)
            try:
                whole = Run(web, setting.depths, rains=courses)
                part = Run(told, setting.depths[:many], rains=courses)
            except TooLong:
                continue
            compared += 1
            for each in range(min(place + 1, web.many)):
                self.assertEqual(part.water_of(each), whole.water_of(each))
            for bed in range(many):
                self.assertEqual(part.moves(bed), whole.moves(bed))
                self.assertEqual(part.depth_on(bed, 10 ** 15), whole.depth_on(bed, 10 ** 15))
        self.assertGreater(compared, 100)

    def test_no_numbers(self):
        web = small()
        for thing in plain.odd_things() + [-1, 4, 10 ** 12, Share(1)]:
            with self.assertRaises(NoPlace) as caught:
                cut(web, thing)
            self.assertIs(caught.exception.place, thing)

    def test_nothing_is_changed_and_the_lists_are_new(self):
        web = small()
        for place in range(4):
            told = cut(web, place)
            told.beds.append(None)
            told.parts.clear()
            self.assertEqual(web, small())
        self.assertEqual(cut(web, 2), small())


class TestJoined(unittest.TestCase):
    def refuse(self, one, other, pipes):
        with self.assertRaises(NoWeb) as caught:
            joined(one, other, pipes=pipes)
        self.assertEqual(caught.exception.part, "parts")

    def test_without_pipes(self):
        told = joined(small(), basin(), pipes=[])
        self.assertEqual(told, web_of(5, [(0, 1, 0, 5), (0, 2, 1, 5), (1, 2, -3, 4), (3, 4, 0, 2), (3, 4, 1, 2)],
                                      [(1, 3), (2,), (), (1, 2), ()]))
        self.assertEqual(joined(lakes(2), lakes(3), pipes=[]), lakes(5))

    def test_by_a_pipe(self):
        told = joined(small(), basin(), pipes=[(2, 0)])
        beds = [(0, 1, Share(0), Share(5)), (0, 2, Share(1), Share(5)), (1, 2, Share(-3), Share(4)), pipe(2, 3),
                (3, 4, Share(0), Share(2)), (3, 4, Share(1), Share(2))]
        self.assertEqual(told, Web(5, beds, [(1, 3), (2,), (1,), (1, 2), ()]))
        self.assertEqual((told.many, told.beds, told.parts), (5, beds, [(1, 3), (2,), (1,), (1, 2), ()]))

    def test_a_lake_ahead_of_other_places(self):
        # Place 1 of the one is a lake between two places with beds.
        one = web_of(4, [(0, 1, 0, 1), (2, 3, 0, 1)], [(3,), (), (4,), ()])
        told = joined(one, lakes(2), pipes=[(3, 0), (1, 1)])
        self.assertEqual(told.beds, [(0, 1, LOW, Share(1)), pipe(1, 5), (2, 3, LOW, Share(1)), pipe(3, 4)])
        self.assertEqual(told.parts, [(3,), (1,), (4,), (1,), (), ()])

    def test_pipes_in_any_order_and_several_to_one_place(self):
        one = lakes(3)
        told = joined(one, basin(), pipes=[(2, 0), (0, 0), (1, 1)])
        self.assertEqual(told.beds[:3], [pipe(0, 3), pipe(1, 4), pipe(2, 3)])
        self.assertEqual(told, joined(one, basin(), pipes=[(1, 1), (2, 0), (0, 0)]))
        self.assertEqual(told.parts, [(1,), (1,), (1,), (1, 2), ()])
        self.assertNotEqual(told, joined(one, basin(), pipes=[(1, 0), (2, 0), (0, 0)]))

    def test_chance_webs(self):
        rng = random.Random(911)
        made = refused = 0
        for _ in range(600):
            one, other = draw_web(rng, places=(1, 6), most=10), draw_web(rng, places=(1, 4), most=8)
            dry = [place for place in range(one.many) if not one.outs[place]]
            pipes = [(lake, rng.randrange(other.many)) for lake in rng.sample(dry, rng.randint(0, len(dry)))]
            beds = [(*bed[:2], Share(bed[2].numerator, bed[2].denominator), Share(bed[3].numerator, bed[3].denominator))
                    for bed in one.beds]
            beds += [pipe(lake, one.many + place) for lake, place in pipes]
            beds.sort(key=lambda bed: bed[0])
            beds += [(bed[0] + one.many, bed[1] + one.many, Share(3 * bed[2].numerator, 3 * bed[2].denominator),
                      Share(-bed[3].numerator, -bed[3].denominator)) for bed in other.beds]
            parts = [(1,) if place in dict(pipes) else told for place, told in enumerate(one.parts)] + other.parts
            if one.many + other.many > 8 or len(beds) > 12:
                self.refuse(one.web(), other.web(), pipes)
                refused += 1
            else:
                self.assertEqual(joined(one.web(), other.web(), pipes=pipes), Web(len(parts), beds, parts))
                made += 1
        self.assertGreater(min(made, refused), 50)

    def test_eight_places_and_nine(self):
        self.assertEqual(joined(lakes(4), lakes(4), pipes=[(3, 3), (0, 0)]).many, 8)
        self.assertEqual(joined(lakes(7), lakes(1), pipes=[]), lakes(8))
        for many in (5, 6, 8):
            self.refuse(lakes(4), lakes(many), [])
        self.refuse(lakes(8), lakes(1), [])

    def test_twelve_beds_and_thirteen(self):
        five = web_of(4, [(0, 1, 0, 1), (0, 2, 0, 1), (1, 2, 0, 1), (1, 3, 0, 1), (2, 3, 0, 1)],
                      [(1, 1), (1, 1), (1,), ()])
        six = web_of(4, [(place, end, 0, 1) for place in range(3) for end in (place + 1, 3)], [(1, 1)] * 3 + [()])
        self.assertEqual(len(joined(five, six, pipes=[(3, 0)]).beds), 12)
        self.assertEqual(len(joined(six, six, pipes=[]).beds), 12)
        self.refuse(six, six, [(3, 0)])

    def test_no_pipes(self):
        one, other = small(), basin()
        for thing in plain.odd_things():
            if thing != []:
                self.refuse(one, other, thing)
            self.refuse(one, other, [thing] if thing != [] else [[]])
            self.refuse(one, other, [(2, thing)])
            self.refuse(one, other, [(thing, 0)])
        for pipes in ([(2, 0), (2, 0)], [(2, 0), (2, 1)], [(0, 0)], [(1, 0)], [(3, 0)], [(-1, 0)], [(2, -1)], [(2, 2)],
                      [(2, 0, 0)], [(2,)], [()], ((2, 0),), (2, 0), [[2, 0]], [(2, 0), None], [(2, Share(0))],
                      [(2, False)], {2: 0}, "20"):
            self.refuse(one, other, pipes)
        # A truth is no lake, though lake 1 is there.
        self.refuse(lakes(2), lakes(2), [(True, 0)])
        self.refuse(lakes(2), lakes(2), [(0, True)])

    def test_a_pipe_stays_as_long_as_it_bears_less(self):
        told = joined(lakes(1), lakes(1), pipes=[(0, 0)])
        for amount, depth in ((0, 7), (10 ** 40 - 1, 7), (10 ** 40, 8), (10 ** 41, 8)):
            self.assertEqual(step(told, (7,), rain=rain_of((amount, 0))), (depth,))
            self.assertEqual(borne(told, (7,), rain=rain_of((amount, 0))), [Share(amount)])
            self.assertEqual(water(told, (7,), rain=rain_of((amount, 5))), [Share(amount), Share(amount + 5)])

    def test_nothing_is_changed_and_the_lists_are_new(self):
        one, other, pipes = small(), basin(), [(2, 0)]
        told = joined(one, other, pipes=pipes)
        kept = joined(one, other, pipes=pipes)
        told.beds.clear()
        told.parts.append(())
        self.assertEqual((one, other, pipes), (small(), basin(), [(2, 0)]))
        pipes.clear()
        self.assertEqual(kept, joined(small(), basin(), pipes=[(2, 0)]))
        self.assertEqual(len(kept.beds), 6)
        # One web may be joined with itself.
        self.assertEqual(joined(one, one, pipes=[(2, 0)]).parts, [(1, 3), (2,), (1,), (1, 3), (2,), ()])
        with self.assertRaises(TypeError):
            joined(one, other, [])

    def test_day_by_day(self):
        rng = random.Random(912)
        for _ in range(150):
            one, other, pipes = self.draw(rng)
            told = joined(one, other, pipes=pipes)
            depths = tuple(rng.randint(-2, 2) for _ in one.beds)
            others = tuple(rng.randint(-2, 2) for _ in other.beds)
            places = [bed[1] < one.many and "one" or (bed[0] < one.many and "pipe" or "other") for bed in told.beds]
            both = iter(depths), iter([5] * len(pipes)), iter(others)
            now = tuple(next(both[("one", "pipe", "other").index(kind)]) for kind in places)
            for _ in range(6):
                rain = rain_of([rng.randint(0, 4) for _ in range(told.many)])
                mine = water(one, depths, rain=rain[:one.many])
                falls = list(rain[one.many:])
                for lake, place in pipes:
                    falls[place] = Share(falls[place].top * mine[lake].bottom + mine[lake].top * falls[place].bottom,
                                         falls[place].bottom * mine[lake].bottom)
                theirs = water(other, others, rain=tuple(falls))
                self.assertEqual(water(told, now, rain=rain), mine + theirs)
                depths = step(one, depths, rain=rain[:one.many])
                others = step(other, others, rain=tuple(falls))
                now = step(told, now, rain=rain)
                self.assertEqual(tuple(depth for depth, kind in zip(now, places) if kind == "one"), depths)
                self.assertEqual(tuple(depth for depth, kind in zip(now, places) if kind == "pipe"), (5,) * len(pipes))
                self.assertEqual(tuple(depth for depth, kind in zip(now, places) if kind == "other"), others)

    def draw(self, rng):
        """Two small webs with some pipes."""
        one, other = draw_web(rng, places=(1, 4), most=5), draw_web(rng, places=(1, 4), most=5)
        dry = [place for place in range(one.many) if not one.outs[place]]
        pipes = [(lake, rng.randrange(other.many)) for lake in rng.sample(dry, rng.randint(0, min(2, len(dry))))]
        return one.web(), other.web(), pipes

    def test_by_runs_for_ever(self):
        rng = random.Random(913)
        compared = 0
        for _ in range(500):
            one, other, pipes = self.draw(rng)
            told = joined(one, other, pipes=pipes)
            rains = [course((rng.randint(1, 30), [rng.randint(0, 3)]),
                            (None, [rng.randint(0, 3) for _ in range(rng.randint(1, 3))])) for _ in range(told.many)]
            depths = tuple(rng.randint(-2, 2) for _ in one.beds)
            others = tuple(rng.randint(-2, 2) for _ in other.beds)
            kinds = [bed[0] >= one.many for bed in told.beds]
            piped = [not kind and bed[1] >= one.many for bed, kind in zip(told.beds, kinds)]
            mine, theirs = iter(depths), iter(others)
            now = tuple(0 if pipe_here else next(theirs if kind else mine) for kind, pipe_here in zip(kinds, piped))
            try:
                whole = Run(told, now, rains=rains)
                alone = Run(one, depths, rains=rains[:one.many])
                falls = [added([rain] + [alone.water_of(lake) for lake, there in pipes if there == place])
                         for place, rain in enumerate(rains[one.many:])]
                below = Run(other, others, rains=falls)
            except (TooLong, NoRain):
                continue
            compared += 1
            for place in range(told.many):
                run, there = (alone, place) if place < one.many else (below, place - one.many)
                self.assertEqual(whole.water_of(place), run.water_of(there))
                self.assertIsInstance(whole.water_of(place), Course)
                self.assertEqual(on(whole.water_of(place), 10 ** 15), on(run.water_of(there), 10 ** 15))
                self.assertEqual(whole.got_by(place, 10 ** 15), run.got_by(there, 10 ** 15))
                if len(told.parts[place]) == 2:
                    self.assertEqual(whole.leads(place), run.leads(there))
                    self.assertEqual(whole.end_of(place), run.end_of(there))
        self.assertGreater(compared, 250)


if __name__ == "__main__":
    unittest.main()
