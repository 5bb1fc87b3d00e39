"""The whole program (0.1 to 0.4): told lists are the caller's own, nothing handed in is changed, the same is told again."""

import random
import unittest

import plain_run
from plain import always, course, shares
from plain_run import Setting, web_of
from plain_web import draw_web, rain_of

from rillweb import errors
from rillweb.alike import apart_on, apart_within
from rillweb.back import before, before_any, rains_between
from rillweb.chances import matters, ties_of, turn
from rillweb.courses import Course, added, end, first_unlike, later, on, sum_to, taken
from rillweb.digs import fewest, margin
from rillweb.errors import RillError
from rillweb.putting import cut, joined
from rillweb.runs import Run, settled
from rillweb.shares import Share, less, minus, over, plus, times
from rillweb.webs import Web, borne, step, water

FAR = 10 ** 12
DRY = always(0)


def view(thing):
    """A plain value that tells all of what is told."""
    if isinstance(thing, Share):
        return ("share", thing.top, thing.bottom)
    if isinstance(thing, Course):
        days = [*range(70), FAR, 10 ** 15]
        return ("course", end(thing), [view(on(thing, day)) for day in days], view(sum_to(thing, 10 ** 15)))
    if isinstance(thing, Web):
        return ("web", thing.many, [view(bed) for bed in thing.beds], list(thing.parts))
    if isinstance(thing, Run):
        return ("run", [view(thing.water_of(place)) for place in range(thing.web.many)])
    if isinstance(thing, tuple):
        return ("tuple", *[view(each) for each in thing])
    if isinstance(thing, list):
        return ["list", *[view(each) for each in thing]]
    return thing


def spoil(thing):
    """Change all lists that are told."""
    if isinstance(thing, list):
        for each in thing:
            spoil(each)
        thing.append("spoilt")
        thing.reverse()
    elif isinstance(thing, tuple):
        for each in thing:
            spoil(each)


class Asked:
    """All that can be asked of a small web and its runs; each question is asked by its number."""

    def __init__(self):
        self.web = web_of(4, [(0, 1, 0, 1), (0, 2, 0, 2), (1, 2, 1, 2), (1, 3, 0, 3), (2, 3, 1, 9)],
                          [(1, 2), (3, 1), (4,), ()])
        self.depths = (1, 0, 0, 1, 5)
        self.rain = rain_of((3, 1, 0, 2))
        self.rains = [course((9, (1, 2, 3)), (None, (3, 0))), always(1), DRY, course((FAR, (1,)), (None, (2, 1)))]
        self.digs = ((3, 0, -1), (40, 1, 2))
        self.pairs = [(0, 0), (1, 1), (3, 3), (1, 1)]
        self.pipes = [(3, 1)]
        self.beds = [(0, 1, Share(-1), Share(1))]
        self.stretches = [(2, shares(1, 2)), (None, shares(3))]
        self.run = Run(self.web, self.depths, rains=self.rains, digs=self.digs)
        self.won = Run(self.web, self.depths, rains=self.rains)
        self.lake = Web(2, self.beds, [(1,), ()])
        self.courses = [Course(self.stretches), DRY]
        self.questions = [*self.of_days(), *self.of_runs(), *self.of_others()]

    def handed_in(self):
        """All that is handed in."""
        return view([self.depths, self.rain, self.rains, self.digs, self.pairs, self.pipes, self.beds, self.stretches,
                     self.courses, self.web, self.lake])

    def of_days(self):
        """Questions of one day, of shares and of courses."""
        web, depths = self.web, self.depths
        one, other = self.courses
        return [lambda: borne(web, depths, rain=self.rain), lambda: water(web, depths, rain=self.rain),
                lambda: step(web, depths, rain=self.rain), lambda: before(web, depths, rain=self.rain),
                lambda: before_any(web, depths, place=0),
                lambda: rains_between(web, depths, step(web, depths, rain=rain_of((1, 0, 0, 0))), place=0),
                lambda: [plus(Share(1), Share(1, 2)), minus(Share(1), Share(3)), times(Share(2), Share(3)),
                         over(Share(1), Share(4)), less(Share(1), Share(2))],
                lambda: added(self.courses), lambda: taken(Share(2), one), lambda: later(one, 1), lambda: end(one),
                lambda: first_unlike(one, other), lambda: sum_to(one, 9), lambda: on(one, 2)]

    def of_runs(self):
        """Questions of runs."""
        run, won = self.run, self.won
        asked = [lambda: ties_of(run, 200), lambda: settled(run, won, 0), lambda: apart_on(run, won, pairs=self.pairs)]
        for place in range(4):
            asked += [lambda place=place: run.water_of(place), lambda place=place: run.end_of(place),
                      lambda place=place: run.got_by(place, FAR)]
        for place in range(2):
            asked += [lambda place=place: run.leads(place), lambda place=place: run.ties(place),
                      lambda place=place: run.wins(place)]
            if won.wins(place) is not None:
                asked.append(lambda place=place: margin(won, place))
        for bed in range(5):
            asked += [lambda bed=bed: run.borne_by(bed), lambda bed=bed: run.moves(bed), lambda bed=bed: run.drift(bed),
                      lambda bed=bed: run.depth_on(bed, FAR)]
        for day, place in ties_of(run, 200)[:2]:
            asked += [lambda day=day, place=place: turn(run, day, place),
                      lambda day=day, place=place: matters(run, day, place)]
        return asked

    def of_others(self):
        """Questions of digs, of webs put together, and of webs alike."""
        web, depths = self.web, self.depths
        asked = [lambda: cut(web, 1), lambda: cut(web, 2), lambda: joined(web, self.lake, pipes=self.pipes),
                 lambda: joined(self.lake, web, pipes=[(1, 0)])]
        for bed in range(4):
            asked.append(lambda bed=bed: fewest(web, depths, rains=self.rains, bed=bed, most=2))
        for days in range(4):
            asked.append(lambda days=days: apart_within(web, depths, web, (1, 0, 1, 1, 5), places=(0, 0),
                                                        pairs=self.pairs, days=days))
        return asked


class TestWhole(unittest.TestCase):
    def test_the_same_is_told_again_and_nothing_is_changed(self):
        asked = Asked()
        kept = asked.handed_in()
        told = []
        for question in asked.questions:
            answer = question()
            told.append(view(answer))
            spoil(answer)
            self.assertEqual(asked.handed_in(), kept)
        rng = random.Random(1)
        order = list(range(len(told))) * 3
        rng.shuffle(order)
        for number in order:
            answer = asked.questions[number]()
            self.assertEqual(view(answer), told[number])
            spoil(answer)
        self.assertEqual(asked.handed_in(), kept)
        # And by others that are made anew, in another order.
        again = Asked()
        for number in reversed(range(len(told))):
            self.assertEqual(view(again.questions[number]()), told[number])

    def test_what_is_changed_behind_changes_nothing(self):
        asked, kept = Asked(), Asked()
        asked.rains.clear()
        asked.beds.clear()
        asked.stretches[0] = (1, shares(9))
        for place in range(4):
            self.assertEqual(asked.run.water_of(place), kept.run.water_of(place))
            self.assertEqual(view(asked.won.end_of(place)), view(kept.won.end_of(place)))
        self.assertEqual(asked.lake, kept.lake)
        self.assertEqual(asked.courses, kept.courses)
        self.assertEqual([view(turn(asked.run, *tie)) for tie in ties_of(asked.run, 9)],
                         [view(turn(kept.run, *tie)) for tie in ties_of(kept.run, 9)])

    def test_a_joined_web_is_changed_by_nothing_behind(self):
        one, other = self.webs()
        told, part = joined(one, other, pipes=[(2, 0)]), cut(one, 1)
        kept = view([told, part])
        one.beds.clear()
        other.parts.clear()
        self.assertEqual(view([told, part]), kept)

    def webs(self):
        """Two small webs."""
        return (web_of(3, [(0, 1, 0, 1), (0, 2, 0, 1)], [(1, 2), (), ()]), web_of(2, [(0, 1, 1, 2)], [(3,), ()]))

    def test_equal_webs_however_written(self):
        rng = random.Random(2)
        for _ in range(200):
            small = draw_web(rng, places=(1, 4), most=5)
            many = rng.randint(2, 9)
            beds = [(start, end, Share(-many * low.numerator, -many * low.denominator),
                     Share(many * high.numerator, many * high.denominator)) for start, end, low, high in small.beds]
            again = Web(small.many, beds, list(small.parts))
            self.assertEqual(again, small.web())
            self.assertEqual(cut(again, small.many), small.web())
            for place in range(small.many + 1):
                self.assertEqual(cut(again, place), cut(small.web(), place))
            self.assertEqual(joined(again, small.web(), pipes=[]), joined(small.web(), again, pipes=[]))
            self.assertEqual(cut(joined(again, again, pipes=[]), small.many),
                             joined(small.web(), cut(small.web(), 0), pipes=[]))

    def test_the_days_of_a_run_led_back_and_parted(self):
        # What one part of the program tells agrees with what the others do.
        rng = random.Random(3)
        asked = 0
        for _ in range(150):
            setting = plain_run.draw(rng, places=(2, 4), digs=0, turned=0, stretches=(1, 1))
            try:
                run = setting.run()
            except errors.TooLong:
                continue
            web, asked = setting.web(), asked + 1
            mornings = [tuple(run.depth_on(bed, day) for bed in range(len(web.beds))) for day in range(12)]
            for day in range(11):
                rain = tuple(on(falls, day) for falls in setting.courses())
                self.assertEqual(step(web, mornings[day], rain=rain), mornings[day + 1])
                self.assertIn(mornings[day], before(web, mornings[day + 1], rain=rain))
                self.assertEqual(water(web, mornings[day], rain=rain),
                                 [on(run.water_of(place), day) for place in range(web.many)])
            for place in setting.forks():
                won = run.wins(place)
                if won is not None:
                    told = fewest(web, setting.depths, rains=setting.courses(), bed=won[0], most=0)
                    self.assertEqual(told, (0, setting.depths))
        self.assertGreater(asked, 100)

    def test_parting_rains_as_runs_tell_them(self):
        # The amounts that part two webs, given to two runs, part them on the same day.
        rng = random.Random(4)
        parted = 0
        for _ in range(600):
            one = draw_web(rng, places=(3, 4))
            depths = tuple(rng.randint(-1, 1) for _ in one.beds)
            others = tuple(depth + rng.choice((0, 0, 1)) for depth in depths)
            web, pairs = one.web(), [(place, place) for place in range(one.many)]
            told = apart_within(web, depths, web, others, places=(0, 0), pairs=pairs, days=3)
            if told is not None:
                rains = [Course([(1, (amount,)) for amount in told] + [(None, (Share(0),))])] + [DRY] * (one.many - 1)
                runs = [Run(web, start, rains=rains) for start in (depths, others)]
                self.assertEqual(apart_on(*runs, pairs=pairs), len(told) - 1)
                parted += 1
        self.assertGreater(parted, 20)

    def test_each_refusal_is_straight_under_one(self):
        for name in "NoShare NoCourse NoDay TooLong NoWeb NoDepths NoRain NoDigs NoTurned NoPlace NoBed NoTie".split():
            self.assertEqual(getattr(errors, name).__bases__, (RillError,))
        self.assertEqual(RillError.__bases__, (ValueError,))

    def test_refused_in_the_place_of_no_other_error(self):
        setting = Setting(3, [(0, 1, 0, 1), (0, 2, 0, 1)], [(1, 0), (), ()], (0, 0), [[(None, (1,))]] * 3)
        run, web = setting.run(), setting.web()
        for thing in ([], {}, set(), [[]], {1: []}):
            for call in (lambda: cut(web, thing), lambda: margin(run, thing), lambda: before_any(web, (0, 0), place=thing),
                         lambda: joined(web, web, pipes=[(thing, 0)]), lambda: apart_on(run, run, pairs=[thing]),
                         lambda: fewest(web, (0, 0), rains=setting.courses(), bed=thing, most=0),
                         lambda: fewest(web, (0, 0), rains=setting.courses(), bed=0, most=thing),
                         lambda: before(web, (0, thing), rain=()), lambda: before(web, (0, 0), rain=(thing,) * 3),
                         lambda: rains_between(web, (0, 0), (thing, 0), place=0),
                         lambda: apart_within(web, (0, 0), web, (0, 0), places=(0, thing), pairs=[], days=0),
                         lambda: apart_within(web, (0, 0), web, (0, 0), places=(0, 0), pairs=[], days=thing)):
                with self.assertRaises(RillError):
                    call()


if __name__ == "__main__":
    unittest.main()
