"""Sums of courses (2.4)."""

import random
import time
import unittest
from math import lcm

import plain
from plain import always, course, fraction, shares

from rillweb.courses import Course, added, end, first_unlike, later, on, sum_to, taken
from rillweb.errors import TooLong
from rillweb.shares import Share

FAR = 10 ** 12
MINUS = Share(-1)


class Sums(unittest.TestCase):
    def refuse(self, courses):
        with self.assertRaises(TooLong) as caught:
            added(courses)
        self.assertIsNone(caught.exception.place)


class TestAdded(Sums):
    def test_of_none_and_of_one(self):
        self.assertEqual(added([]), always(0))
        self.assertEqual(end(added([])), (0, 1))
        told = course((3, (1, 2)), (FAR, (3,)), (None, (4, 5)))
        self.assertEqual(added([told]), told)

    def test_of_one_of_sixty_stretches(self):
        told = course(*[(FAR, (at, at + 1)) for at in range(59)], (None, range(60)))
        self.assertEqual(added([told]), told)

    def test_of_two(self):
        one = course((3, (1, 2)), (FAR, (3,)), (None, (4, 5)))
        other = course((5, (10, 20, 30)), (None, (40,)))
        self.assertEqual(added([one, other]), course((1, (11,)), (1, (22,)), (1, (31,)), (1, (13,)), (1, (23,)),
                                                     (FAR - 2, (43,)), (None, (44, 45))))

    def test_sums_of_shares(self):
        some = [Course([(None, (Share(1, 2), Share(1, 3)))]), Course([(None, (Share(-1, 2), Share(1, 5), Share(1)))])]
        self.assertEqual(added(some), Course([(None, (Share(0), Share(8, 15), Share(3, 2), Share(-1, 6), Share(7, 10),
                                                     Share(4, 3)))]))

    def test_numbers_of_fifty_figures(self):
        large = 10 ** 49 + 9
        some = [Course([(FAR, (Share(1, large),)), (None, (Share(large),))]),
                Course([(FAR, (Share(1, large + 2),)), (None, (Share(-large),))])]
        both = Share(2 * large + 2, large * (large + 2))
        self.assertEqual(added(some), Course([(FAR, (both,)), (None, (Share(0),))]))

    def test_many_in_any_order(self):
        rng = random.Random(61)
        for _ in range(60):
            some = [Course(plain.chance_stretches(rng, stretches=4, days=FAR, word=4)) for _ in range(8)]
            whole = added(some)
            for _ in range(3):
                rng.shuffle(some)
                self.assertEqual(added(some), whole)
                self.assertEqual(added([added(some[:3]), added(some[3:])]), whole)

    def test_the_list_stays(self):
        some = [always(1), always(2, 3)]
        kept = list(some)
        told = added(some)
        self.assertTrue(all(mine is theirs for mine, theirs in zip(some, kept)) and len(some) == 2)
        some.append(always(9))
        self.assertEqual(told, always(3, 4))
        self.assertEqual(kept, [always(1), always(2, 3)])

    def test_sums_can_be_asked_and_added_again(self):
        told = added([course((FAR, (1, 2)), (None, (3,))), course((7, (5,)), (None, (1, 0, 0)))])
        self.assertEqual(added([told, taken(MINUS, told)]), always(0))
        self.assertEqual([on(told, FAR + late) for late in range(4)], list(shares(4, 3, 3, 4)))
        self.assertEqual(sum_to(told, 9), Share(13 + 35 + 1))
        self.assertEqual(later(told, FAR + 3), always(4, 3, 3))
        self.assertEqual(first_unlike(told, always(6, 7)), 7)


class TestTwins(Sums):
    def test_twins_come_to_nothing(self):
        one = course((5, (1, 2, 3)), (FAR, (4, 5)), (None, range(60)))
        self.assertEqual(added([one, taken(MINUS, one)]), always(0))
        self.assertEqual(added([one, taken(Share(2), one), taken(Share(-3), one)]), always(0))

    def test_what_stays_beside_twins(self):
        for size in (1, 2, 7, 58, 59, 60):
            twin = course((FAR, range(size)), (None, range(60, 120)))
            for other in (always(*range(59)), always(*range(30), 7), course((9, (3,)), (None, (1, 2)))):
                self.assertEqual(added([twin, other, taken(MINUS, twin)]), other)
                self.assertEqual(added([other, taken(MINUS, twin), twin]), other)

    def test_rounds_that_come_to_more_than_sixty(self):
        for one, other in ((59, 60), (7, 9), (31, 32), (60, 7)):
            mine, theirs = always(*range(one)), always(*range(100, 100 + other))
            self.refuse([mine, theirs])
            self.assertEqual(added([mine, theirs, taken(MINUS, mine)]), theirs)
            self.assertEqual(added([mine, theirs, taken(MINUS, theirs)]), mine)

    def test_twins_told_otherwise(self):
        one = course((FAR, (1, 2)), (None, (1, 2)))
        other = taken(MINUS, course((7, (1, 2, 1, 2)), (FAR + 2, (2, 1)), (None, (2, 1, 2, 1))))
        self.assertEqual(added([one, other, always(5)]), always(5))

    def test_twins_by_rounds_of_their_own(self):
        one, other = always(1, 2), always(3, 4, 5)
        both = added([one, other])
        self.assertEqual(end(both), (0, 6))
        self.assertEqual(added([one, other, taken(MINUS, both)]), always(0))
        self.assertEqual(added([always(*range(59)), one, taken(MINUS, both), other]), always(*range(59)))

    def test_rows_that_are_0_for_all_but_a_late_day(self):
        spike = always(*[0] * 58, 1)
        self.refuse([spike, always(*[0] * 59, 1)])
        self.assertEqual(added([spike, course((59 * FAR, [0] * 58 + [-1]), (None, (0,)))]),
                         course((59 * FAR, (0,)), (None, [0] * 58 + [1])))


class TestTooLong(Sums):
    def test_words_of_exactly_sixty_for_ever(self):
        for one, other in ((3, 20), (4, 15), (5, 12)):
            told = added([always(*range(one)), always(*range(0, 100 * other, 100))])
            self.assertEqual(end(told), (0, 60))
            self.assertEqual([on(told, day) for day in range(130)],
                             [Share(day % one + 100 * (day % other)) for day in range(130)])

    def test_words_of_more_than_sixty_for_ever(self):
        for one, other in ((7, 9), (5, 13), (2, 31), (59, 60), (8, 9)):
            self.refuse([always(*range(one)), always(*range(other))])
            self.refuse([course((FAR, (0,)), (None, range(one))), course((5, (0,)), (None, range(other)))])

    def test_words_of_sixty_and_more_through_a_long_stretch(self):
        told = added([course((FAR, range(3)), (None, (0,))), course((FAR, range(0, 2000, 100)), (None, (0,)))])
        self.assertEqual(told, course((FAR, [day % 3 + 100 * (day % 20) for day in range(60)]), (None, (0,))))
        for many in (FAR, 10 ** 9, 5000):
            self.refuse([course((many, range(7)), (None, (0,))), course((many, range(9)), (None, (0,)))])

    def test_words_of_more_than_sixty_through_a_short_stretch(self):
        for many in (1, 59, 60, 61, 200, 1500):
            one, other = course((many, range(7)), (None, (0,))), course((many, range(9)), (None, (0,)))
            told = added([one, other])
            self.assertEqual([on(told, day) for day in range(many + 9)],
                             [Share(day % 7 + day % 9 if day < many else 0) for day in range(many + 9)])

    def test_sixty_and_sixty_one_long_stretches(self):
        sixty = course(*[(FAR, (at, at + 1)) for at in range(59)], (None, (59,)))
        self.assertEqual(added([sixty, always(0)]), sixty)
        self.refuse([sixty, course((59 * FAR + 70, (0,)), (None, (1,)))])
        self.refuse([sixty, course((FAR // 2, (0,)), (None, (1,)))])
        # Where it changes with a stretch that is there anyway, it takes none more.
        self.assertEqual(added([sixty, course((FAR, (0,)), (None, (1,)))]),
                         course((FAR, (0, 1)), *[(FAR, (at + 1, at + 2)) for at in range(1, 59)], (None, (60,))))

    def test_sixty_stretches_between_two_courses(self):
        one = course(*[(FAR, (at * at,)) for at in range(30)], (None, (30 * 30,)))
        for many in (29, 30):
            other = course((FAR // 2, (1,)), *[(FAR, (at * at * at,)) for at in range(2, many + 1)], (None, (5,)))
            if many == 29:
                self.assertEqual(on(added([one, other]), FAR), Share(9))
                self.assertEqual(on(added([one, other]), 10 ** 15), Share(905))
            else:
                self.refuse([one, other])

    def test_sixty_and_sixty_one_stretches_of_days_all_unlike(self):
        # 59 times sixty days all unlike: a word of sixty shares tells sixty of them.
        one = course(*[(60, range(60 * at, 60 * at + 60)) for at in range(59)], (None, (-1,)))
        self.assertEqual(added([one, always(0)]), one)
        late = course((59 * 60, (0,)), (1, (9,)), (None, (0,)))
        self.refuse([one, late])
        self.assertEqual(added([one, course((59 * 60 - 1, (0,)), (1, (9,)), (None, (0,)))]),
                         course(*[(60, range(60 * at, 60 * at + 60)) for at in range(58)],
                                (60, [*range(60 * 58, 60 * 59 - 1), 60 * 59 - 1 + 9]), (None, (-1,))))

    def test_the_longest_stretch_first(self):
        # Ten days of their own and then (1, 2) for ever: one word of sixty shares tells the first sixty days.
        one = course(*[(1, (at,)) for at in range(10)], (None, (1, 2)))
        self.assertEqual(added([one, always(0)]), one)
        many = [course((200 * at + 1, (0,)), (1, (at + 5,)), (None, (0,))) for at in range(29)]
        self.assertEqual(on(added(many), 200 * 28 + 1), Share(33))
        self.refuse(many + [course((200 * 29 + 1, (0,)), (1, (1,)), (None, (0,))),
                            course((200 * 30 + 1, (0,)), (1, (1,)), (None, (0,)))])

    def test_a_longer_word_that_outlasts_the_shortest_one(self):
        # On the first 89 days words of 31 and of 60 shares will do, then just the one of 60.
        numbers = plain.both_rounds(31, 60)
        ahead = course((85, numbers[:31]), (None, (0,)))
        behind = [*[(FAR, (at, 0)) for at in range(2, 59)], (None, (1,))]
        rest = course((85, (0,)), (115, numbers[25:60] + numbers[:25]), *behind)
        whole = course((200, numbers[:60]), *behind)
        last = course((10 ** 14, (0,)), (None, (5,)))
        self.assertEqual(added([ahead, rest]), whole)
        self.assertEqual(on(added([ahead, rest, last]), 10 ** 14), Share(6))
        self.refuse([ahead, rest, last, course((10 ** 15, (0,)), (None, (1,)))])

    def test_rows_that_are_0_on_as_many_days_as_can_be(self):
        numbers = plain.both_rounds(59, 60)
        less = [-number for number in numbers]
        self.refuse([always(*numbers[:59]), always(*less[:60])])
        for many in (117, 118, 119, 130):
            told = added([course((many, word), (None, (0,))) for word in (numbers[:59], less[:60])])
            self.assertEqual(first_unlike(told, always(0)), None if many == 117 else 117)
        told = course((59 * FAR, numbers[:59]), (None, numbers[:60]))
        self.assertEqual(added([told, always(0)]), told)

    def test_one_day_stretches(self):
        some = [course((at + 1, (0,)), *[(1, (at + day,)) for day in range(58)], (None, (at,))) for at in range(90)]
        told = added(some)
        for day in range(160):
            self.assertEqual(on(told, day), Share(sum(
                0 if day <= at else 2 * at if day == 0 else at + (day - at - 1) if day < at + 59 else at
                for at in range(90))))

    def test_begins_that_do_not_fit(self):
        some = [course((10 ** 9 * at + at * at + 1, (at, 1, 2)), (10 ** 9 + 7, (3, at)), (None, (1,)))
                for at in range(1, 12)]
        told = added(some)
        near = [10 ** 9 * at + at * at + late for at in range(1, 14) for late in range(-3, 4)]
        for day in [0, 1, 2, 10 ** 15] + near:
            self.assertEqual(fraction(on(told, day)), sum(fraction(on(each, day)) for each in some))


class TestChance(Sums):
    def check(self, lists):
        """Compare the sum of courses, lists of stretches, with the days added one by one; tell whether it is told."""
        come_round = lcm(*[len(stretches[-1][1]) for stretches in lists])
        settled = max([plain.settled_on(stretches) for stretches in lists], default=0)
        many = settled + 2 * come_round + 4 * plain.MOST
        days = [sum(each) for each in zip(*[plain.days_of(stretches, many) for stretches in lists])] or [0] * many
        try:
            fewest = plain.fewest_stretches(days, come_round, settled)
        except AssertionError:
            # A word longer than sixty for ever.
            fewest = [None] * 61
        courses = [Course(stretches) for stretches in lists]
        if len(fewest) > 60:
            self.refuse(courses)
            return False
        told = added(courses)
        self.assertEqual([fraction(on(told, day)) for day in range(many)], days)
        made = [(length, tuple(on(told, begin + at) for at in range(size))) for begin, length, size in fewest]
        self.assertEqual(Course(made), told)
        return True

    def chance_lists(self, rng, most, **kinds):
        lists = [plain.chance_stretches(rng, **kinds) for _ in range(rng.randint(0, most))]
        for stretches in list(lists):
            if rng.random() < 0.25:
                lists.append([(days, tuple(Share(-share.top, share.bottom) for share in word))
                              for days, word in stretches])
        rng.shuffle(lists)
        return lists

    def test_few_stretches(self):
        rng = random.Random(71)
        for _ in range(700):
            self.check(self.chance_lists(rng, 3, stretches=3, days=10, word=4))

    def test_longer_stretches(self):
        rng = random.Random(72)
        for _ in range(250):
            self.check(self.chance_lists(rng, 3, stretches=4, days=150, word=3))

    def test_longer_words(self):
        rng = random.Random(73)
        told = [self.check([self.chance_words(rng, (2, 4, 5, 7, 8, 12)) for _ in range(rng.randint(2, 3))])
                for _ in range(150)]
        self.assertTrue(30 < sum(told) < 145)

    def chance_words(self, rng, sizes):
        """Stretches of words of just some sizes."""
        words = [tuple(Share(rng.randint(0, 2)) for _ in range(rng.choice(sizes))) for _ in range(rng.randint(1, 4))]
        return [(rng.randint(1, 300), word) for word in words[1:]] + [(None, words[0])]

    def test_many_stretches(self):
        rng = random.Random(74)
        told = [self.check(self.chance_lists(rng, 4, stretches=50, days=250, word=3)) for _ in range(40)]
        self.assertTrue(8 < sum(told) < 36)


class TestLargest(Sums):
    def setUp(self):
        self.begun = time.perf_counter()

    def tearDown(self):
        # Far more than it takes; walking through long stretches would take for ever.
        self.assertLess(time.perf_counter() - self.begun, 60)

    def chance(self, rng, stretches, days, word):
        ahead = [(rng.randint(1, days), self.word(rng, word)) for _ in range(stretches - 1)]
        return Course(ahead + [(None, self.word(rng, word))])

    def word(self, rng, most):
        return tuple(Share(rng.randint(-5, 5), rng.randint(1, 6)) for _ in range(rng.randint(1, most)))

    def test_ninety_courses_of_sixty_stretches_are_too_long(self):
        rng = random.Random(81)
        for days in (200, 10 ** 9):
            for word in (1, 4, 60):
                self.refuse([self.chance(rng, 60, days, word) for _ in range(90)])

    def test_forty_five_twins_and_one_more(self):
        rng = random.Random(82)
        for days in (1, 200, 10 ** 9):
            for word in (1, 4, 60):
                some = [self.chance(rng, 60, days, word) for _ in range(45)]
                some += [taken(MINUS, each) for each in some]
                self.assertEqual(added(some), always(0))
                other = self.chance(rng, 50, days, word)
                some.append(other)
                rng.shuffle(some)
                self.assertEqual(added(some), other)

    def test_thirty_pairs_and_their_sums(self):
        rng = random.Random(83)
        some = []
        for _ in range(30):
            begins = sorted(rng.sample(range(1, 10 ** 9), 25))
            pair = [Course([(late - early, self.word(rng, 7)) for early, late in zip([0] + begins, begins)]
                           + [(None, self.word(rng, 7))]) for _ in range(2)]
            some += pair + [taken(MINUS, added(pair))]
        rng.shuffle(some)
        other = self.chance(rng, 55, 10 ** 9, 4)
        self.assertEqual(added(some), always(0))
        self.assertEqual(added(some + [other]), other)

    def test_ninety_courses_that_change_on_the_same_days(self):
        rng = random.Random(84)
        days = [rng.randint(1, 10 ** 12) for _ in range(59)] + [None]
        some = [[(many, self.word(rng, 4)[:4] * 15) for many in days] for _ in range(90)]
        told = added([Course(stretches) for stretches in some])
        begin = 0
        for at, many in enumerate(days):
            for late in range(14):
                if many is None or late < many:
                    self.assertEqual(fraction(on(told, begin + late)), sum(
                        fraction(stretches[at][1][late % len(stretches[at][1])]) for stretches in some))
            begin += many or 0
