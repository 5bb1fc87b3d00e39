"""Runs that can't be told by sixty stretches with words of sixty days (4.2)."""

import random
import unittest
from fractions import Fraction
from math import lcm

import plain_run
from plain import always, both_rounds, course
from plain_run import Setting, Walked, greedy, web_of

from rillweb.courses import added, end, on, taken
from rillweb.errors import TooLong
from rillweb.runs import Run
from rillweb.shares import Share

FAR = 10 ** 12
DRY = always(0)


class Long(unittest.TestCase):
    def refuse(self, place, web, depths, **kinds):
        with self.assertRaises(TooLong) as caught:
            Run(web, depths, **kinds)
        self.assertEqual(caught.exception.place, place)


def meeting(many):
    """So many places with one bed each, that leads to the last place, and a lake below it."""
    beds = [(place, many, 0, 9) for place in range(many)] + [(many, many + 1, 0, 9)]
    return web_of(many + 2, beds, [(1,)] * (many + 1) + [()])


def rains(*some):
    """Rains on the first places of a web of meeting(len(some)), and none on the others."""
    return [*some, DRY, DRY]


class TestRounds(Long):
    def told(self, *some, **kinds):
        return Run(meeting(len(some)), (0,) * (len(some) + 1), rains=rains(*some), **kinds)

    def amiss(self, *some):
        many = len(some)
        self.refuse(many, meeting(many), (0,) * (many + 1), rains=rains(*some))

    def test_rounds_of_exactly_sixty(self):
        for one, other in ((12, 10), (12, 5), (4, 10)):
            mine, theirs = always(*range(one)), always(*range(0, 100 * other, 100))
            told = self.told(mine, theirs)
            self.assertEqual(told.water_of(2), added([mine, theirs]))
            self.assertEqual(told.end_of(2), end(added([mine, theirs])))
        four_and_fifteen = self.told(always(1, 2, 3, 4), always(0, 0, 0, 0, 8), always(0, 70, 0))
        self.assertEqual(four_and_fifteen.end_of(3), (0, 60))

    def test_rounds_of_more_than_sixty(self):
        for one, other in ((7, 9), (7, 10), (8, 9), (11, 6), (12, 11)):
            self.amiss(always(*range(one)), always(*range(other)))

    def test_through_a_long_stretch_that_ends(self):
        sevens, nines = (FAR, range(7)), (FAR, range(9))
        self.amiss(course(sevens, (None, (0,))), course(nines, (None, (0,))))
        self.amiss(course((5000, range(7)), (None, (0,))), course((6000, range(9)), (None, (0,))))
        told = self.told(course((FAR, range(12)), (None, (0,))), course((FAR, range(0, 500, 100)), (None, (0,))))
        self.assertEqual(on(told.water_of(2), FAR - 1), Share((FAR - 1) % 12 + 100 * ((FAR - 1) % 5)))
        self.assertEqual(told.end_of(2), (FAR, 1))

    def test_through_a_short_stretch(self):
        for many in (59, 60, 61, 200, 1500):
            told = self.told(course((many, range(7)), (None, (0,))), course((many, range(9)), (None, (0,))))
            for day in range(many + 5):
                self.assertEqual(on(told.water_of(2), day), Share(day % 7 + day % 9 if day < many else 0))
            self.assertEqual(told.end_of(2), (many if (many - 1) % 63 else many - 1, 1))
        # Sixty stretches are the most.
        self.amiss(course((61 * 70, range(7)), (None, (0,))), course((61 * 70, range(9)), (None, (0,))))

    def test_exactly_as_many_days_as_sixty_stretches_tell(self):
        days = [day % 7 + day % 9 for day in range(61 * 130)]
        # Fifty-nine stretches, and the sixtieth one is dry for ever, but for days that fit on it.
        last = greedy(days)[59]
        for many, is_short in ((last, True), (last + 40, False), (last + 120, False)):
            some = [course((many, range(7)), (None, (0,))), course((many, range(9)), (None, (0,)))]
            self.assertIs(len(greedy(days[:many] + [0] * 100)) <= 60, is_short)
            if is_short:
                self.assertEqual(self.told(*some).water_of(2), added(some))
            else:
                self.amiss(*some)

    def test_words_that_are_alike_on_as_many_days_as_can_be(self):
        # The sum is 1 on the first nineteen days, and then it goes by a round of 110 days.
        numbers = both_rounds(10, 11)
        mine, theirs = numbers[:10], [1 - number for number in numbers[:11]]
        self.amiss(always(*mine), always(*theirs))
        for many in (18, 19, 20, 40):
            told = self.told(course((many, mine), (None, (0,))), course((many, theirs), (None, (1,))))
            for day in range(60):
                expected = mine[day % 10] + theirs[day % 11] if day < many else 1
                self.assertEqual(on(told.water_of(2), day), Share(expected))
            self.assertEqual(end(told.water_of(2))[0] == 0, many <= 19)

    def test_the_first_place_that_cannot_be_told(self):
        sevens, nines = always(*range(7)), always(*range(9))
        beds = [(0, 2, 0, 9), (1, 2, 0, 9), (2, 3, 0, 9), (3, 4, 0, 9)]
        web = web_of(5, beds, [(1,)] * 4 + [()])
        self.refuse(2, web, (0,) * 4, rains=[sevens, nines, DRY, DRY, DRY])
        self.refuse(2, web, (0,) * 4, rains=[sevens, DRY, nines, DRY, DRY])
        self.refuse(3, web, (0,) * 4, rains=[sevens, DRY, DRY, nines, DRY])
        self.refuse(4, web, (0,) * 4, rains=[sevens, DRY, DRY, DRY, nines])
        self.refuse(2, web, (0,) * 4, rains=[sevens, nines, nines, nines, nines])


class TestParts(Long):
    """Waters whose parts go by other rounds than they do."""

    def test_parts_that_come_to_the_whole_again(self):
        # Place 0 goes to and fro between 1 and 2, by rounds of its own; what they bear down to 3 is all of its water.
        beds = [(0, 1, 0, 1), (0, 2, -1, 90), (1, 3, 0, 9), (2, 3, 0, 9)]
        web = web_of(4, beds, [(1, 0), (1,), (1,), ()])
        for word, size in (((1, 2, 3, 4, 5, 6, 7), 7), ((0, 1, 0, 2, 1, 0, 3, 0, 5, 0, 0), 11)):
            sevens = always(*word)
            told = Run(web, (0,) * 4, rains=[sevens, DRY, DRY, DRY])
            self.assertEqual(told.water_of(3), sevens)
            self.assertEqual(told.end_of(3), (0, size))

    def test_two_beds_to_one_place(self):
        # The choice of each day is nothing to the place below.
        web = web_of(2, [(0, 1, 1, 2), (0, 1, 1, 2)], [(1, 8), ()])
        water = always(9, 18, 0)
        told = Run(web, (0, 1), rains=[water, DRY])
        self.assertEqual(told.water_of(1), water)
        self.assertEqual(told.end_of(1), (0, 3))
        self.assertGreater(told.end_of(0)[1], 3)

    def test_a_rain_that_fits(self):
        # What the rain has less, the bed brings: seven and nine days come to one and the same.
        mine = always(*range(7))
        theirs = always(*[6 - number for number in range(7)])
        web = meeting(2)
        told = Run(web, (0, 0, 0), rains=[mine, theirs, DRY, DRY])
        self.assertEqual(told.water_of(2), always(6))
        self.assertEqual(told.end_of(2), (0, 1))

    def test_words_that_go_on_in_each_other(self):
        # Stretches of both, one behind the other, that come to one word.
        word = range(1, 8)
        one = course((70, word), (70, (0,)), (None, word))
        other = course((70, (0,)), (70, word), (None, (0,)))
        told = Run(meeting(2), (0, 0, 0), rains=[one, other, DRY, DRY])
        self.assertEqual(told.water_of(2), always(*word))
        self.assertEqual(told.end_of(2), (0, 7))


class TestStretches(Long):
    def steps(self, many, days=200):
        """Rains whose sum has so many stretches, each of some days, and another water in each."""
        begins = [days * at for at in range(1, many)]
        some = []
        while begins:
            mine, begins = begins[:9], begins[9:]
            spans = [late - early for early, late in zip([0] + mine, mine)]
            some.append(course(*[(many_days, (at * at + 7 * len(some),)) for at, many_days in enumerate(spans, 1)],
                               (None, (0,))))
        return some + [DRY] * (6 - len(some)) if len(some) < 6 else some

    def test_sixty_and_sixty_one_stretches_of_a_water(self):
        for days in (200, 10 ** 9):
            # Six places with nine turns each, and one with five or six.
            seventh = [course(*[(days * (55 if at == 0 else 1), (at,)) for at in range(many)], (None, (77,)))
                       for many in (5, 6)]
            web = web_of(8, [(at, 7, 0, 9) for at in range(7)], [(1,)] * 7 + [()])
            told = Run(web, (0,) * 7, rains=self.steps(55, days) + [seventh[0], DRY])
            self.assertEqual(told.end_of(7), (59 * days, 1))
            self.refuse(7, web, (0,) * 7, rains=self.steps(55, days) + [seventh[1], DRY])

    def test_the_water_and_the_choice_together(self):
        # The water has fifty stretches; each dig turns the choice once more, for ever.
        web = web_of(8, [(at, 6, 0, 9) for at in range(6)] + [(6, 7, -1, 10 ** 6), (6, 7, -1, 10 ** 6)],
                     [(1,)] * 6 + [(1, 2), ()])
        some = self.steps(50) + [DRY, DRY]
        depths = (0,) * 6 + (10, 5)
        for many in (0, 10, 11, 20):
            digs = tuple((200 * at + 100, 6, (-10, 10)[at % 2]) for at in range(many))
            if many <= 10:
                told = Run(web, depths, rains=some, digs=digs)
                self.assertEqual(added([told.borne_by(6), told.borne_by(7)]), told.water_of(6))
                self.assertEqual(end(told.leads(6)), (0 if many == 0 else 100 + 200 * (many - 1), 1))
            else:
                self.refuse(6, web, depths, rains=some, digs=digs)

    def test_where_the_choice_turns_with_the_water_it_takes_none_more(self):
        web = web_of(8, [(at, 6, 0, 9) for at in range(6)] + [(6, 7, -1, 10 ** 6), (6, 7, -1, 10 ** 6)],
                     [(1,)] * 6 + [(1, 2), ()])
        digs = tuple((200 * at, 6, (10, -10)[at % 2]) for at in range(1, 21))
        told = Run(web, (0,) * 6 + (10, 5), rains=self.steps(55) + [DRY, DRY], digs=digs)
        self.assertEqual(end(told.leads(6)), (4000, 1))


class TestChoices(Long):
    def test_a_choice_that_comes_round_with_several_rounds_of_the_water(self):
        # The bed ahead falls by two a day while it is first, and grows by one while it isn't: three rounds.
        web = web_of(3, [(0, 1, 5, 6), (0, 2, -1, 9)], [(0, 1), (), ()])
        told = Run(web, (0, 0), rains=[always(6), DRY, DRY])
        self.assertEqual(told.end_of(0), (0, 2))
        web = web_of(3, [(0, 1, 2, 6), (0, 2, 1, 3)], [(0, 3), (), ()])
        told = Run(web, (0, 0), rains=[always(3), DRY, DRY])
        self.assertEqual(told.end_of(0), (0, 3))
        self.assertEqual(told.leads(0), always(1, 0, 0))
        self.assertEqual(told.ties(0), always(1, 0, 0))

    def check(self, words, beds, parts, depths):
        """A fork whose water is of two words: told just where its round, found by a walk, is at most sixty days."""
        setting = Setting(3, [(0, 1, 0, 9), *beds], [(1,), parts, ()], depths,
                          [[(None, word)] for word in (*words, (0,))])
        walked = Walked(setting, 1300)
        signs = walked.signs(1)
        size = min(size for size in range(1, 260) if signs[700:-size] == signs[700 + size:])
        if size <= 60 and len(greedy(signs)) <= 60:
            told = setting.run()
            begin, found = told.end_of(1)
            self.assertEqual(found, size)
            self.assertTrue(signs[begin:-size] == signs[begin + size:])
            self.assertTrue(begin == 0 or signs[begin - 1] != signs[begin - 1 + size])
        else:
            self.refuse(1, setting.web(), depths, rains=setting.courses())
        return size

    def test_rounds_of_the_choice_up_to_sixty_and_beyond(self):
        # Once in a round of both words it rains two: only then the beds go apart, or come nearer.
        for lengths in ((4, 5), (3, 7), (4, 7), (5, 6), (3, 10), (3, 11), (4, 11), (5, 12), (7, 12)):
            words = [(0,) * (length - 1) + (1,) for length in lengths]
            for rounds, high in ((2, 3), (3, 2)):
                beds = [(1, 2, 1, 6), (1, 2, 1, high)]
                for depths in ((0, 0, 0), (0, 3, -3), (0, -4, 2)):
                    self.assertEqual(self.check(words, beds, (0, 1), depths), rounds * lcm(*lengths))

    def test_rounds_of_the_choice_by_chance(self):
        rng = random.Random(131)
        found = []
        for _ in range(150):
            lengths = rng.choice(((4, 5), (3, 8), (3, 10), (5, 6), (4, 10), (1, 12), (4, 7)))
            words = [tuple(rng.randint(0, 3) for _ in range(length)) for length in lengths]
            beds = [(1, 2, low, low + rng.choice((Fraction(1, 2), 1, 2))) for low in
                    (Fraction(rng.randint(0, 8), 2), Fraction(rng.randint(0, 8), 2))]
            size = self.check(words, beds, rng.choice(((0, 1), (0, 3), (1, 4), (2, 1))),
                              (0, rng.randint(-9, 9), rng.randint(-9, 9)))
            found.append(size > lcm(*lengths))
        self.assertTrue(5 < sum(found) < 145)

    def test_exactly_as_many_days_as_sixty_stretches_tell(self):
        # The choice comes round in 99 days, while it rains by rounds of three and eleven.
        beds = [(0, 1, 0, 9), (1, 2, 1, 6), (1, 2, 1, 2)]

        def raining(many):
            rains = [[(many, (0,) * length + (1,)), (None, (0,))] for length in (2, 10)]
            return Setting(3, beds, [(1,), (0, 1), ()], (0, 0, 0), [*rains, [(None, (0,))]])
        last = greedy(Walked(raining(4000), 4000).signs(1))[59]
        for many, is_short in ((last, True), (last + 40, False)):
            self.assertIs(len(greedy(Walked(raining(many), many + 200).signs(1))) <= 60, is_short)
            if is_short:
                self.assertEqual(end(raining(many).run().water_of(1))[1], 1)
            else:
                self.refuse(1, raining(many).web(), (0, 0, 0), rains=raining(many).courses())

    def test_chance_runs(self):
        rng = random.Random(132)
        refused = 0
        kinds = ({"word": (3, 12), "stretches": (1, 10), "days": (1, 100), "places": (3, 5)},
                 {"places": (5, 8), "digs": 15}, {"word": (5, 12), "places": (2, 3)})
        for _ in range(120):
            setting = plain_run.draw(rng, **rng.choice(kinds))
            try:
                run, first = setting.run(), setting.many
            except TooLong as caught:
                run, first = None, caught.place
            # The rains turn within a thousand days, so by five thousand days sixty stretches have come, if at all.
            walked = Walked(setting, 5000 if run is None else 800)
            for place in range(first):
                self.assertLessEqual(len(greedy(walked.signs(place))), 60)
            if run is None:
                self.assertGreater(len(greedy(walked.signs(first))), 60)
                refused += 1
        self.assertTrue(15 < refused < 105)


class TestRefusedLate(Long):
    def test_far_behind(self):
        # Only when the beds, far apart, have come together, their choice goes by too long a round: three times 24.
        web = web_of(3, [(0, 1, 0, 9), (1, 2, 1, 6), (1, 2, 1, 2)], [(1,), (0, 1), ()])
        eights, threes = (0,) * 7 + (1,), (0, 0, 1)
        falls = [always(*eights), always(*threes), DRY]
        for depths in ((0, 0, 0), (0, FAR, 0), (0, FAR, -FAR), (0, -FAR, FAR)):
            self.refuse(1, web, depths, rains=falls)
        # The gap falls by two in 24 days, so to 0 by 12 * FAR days.
        for days, is_short in ((11 * FAR, True), (12 * FAR - 24, True), (12 * FAR + 240, True),
                               (12 * FAR + 24000, False), (13 * FAR, False)):
            falls[1] = course((days, threes), (None, (0,)))
            if is_short:
                told = Run(web, (0, FAR, 0), rains=falls)
                self.assertEqual(on(told.leads(1), 11 * FAR - 1), Share(1))
                self.assertEqual(end(told.water_of(1))[1], 8)
            else:
                self.refuse(1, web, (0, FAR, 0), rains=falls)

    def test_taken_runs_stay(self):
        told = Run(meeting(2), (0,) * 3, rains=rains(always(1, 2), always(3)))
        self.assertEqual(taken(Share(2), told.water_of(2)), always(8, 10))
        self.assertEqual(told.water_of(2), always(4, 5))
