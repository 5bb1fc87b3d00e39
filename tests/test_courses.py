"""Courses: making them, asking of them, and where they come round (0.3, 0.4, 2.1 to 2.3)."""

import random
import unittest
from math import lcm

import plain
from plain import always, course, fraction, shares

from rillweb.courses import Course, end, first_unlike, later, on, sum_to, taken
from rillweb.errors import NoCourse, NoDay
from rillweb.shares import Share

FAR = 10 ** 12


class TestMaking(unittest.TestCase):
    def refuse(self, stretches):
        with self.assertRaises(NoCourse):
            Course(stretches)

    def test_one_and_sixty_stretches(self):
        self.assertEqual(on(always(7), 0), Share(7))
        sixty = course(*[(1, (at,)) for at in range(59)], (None, (59,)))
        self.assertEqual([on(sixty, day) for day in range(62)], list(shares(*range(60), 59, 59)))

    def test_no_stretches_and_sixty_one(self):
        self.refuse([])
        self.refuse([(1, shares(at)) for at in range(60)] + [(None, shares(60))])
        self.refuse([(1, shares(1))] * 60 + [(None, shares(1))])

    def test_words_of_one_and_of_sixty_shares(self):
        for last in (0, 59):
            word = tuple(range(last + 1))
            told = course((200, word), (None, word))
            self.assertEqual([on(told, day) for day in range(200)], [Share(day % len(word)) for day in range(200)])

    def test_words_of_none_and_of_sixty_one_shares(self):
        for word in ((), shares(*range(61)), shares(1) * 61):
            self.refuse([(None, word)])
            self.refuse([(3, word), (None, shares(1))])

    def test_any_number_of_days_from_1_on(self):
        for days in (1, FAR, FAR + 1, 10 ** 13, 10 ** 40):
            told = course((days, (1,)), (None, (2,)))
            for day in (days - 1, days):
                if day <= 10 ** 15:
                    self.assertEqual(on(told, day), Share(1 if day < days else 2))

    def test_wrong_days(self):
        for days in [thing for thing in plain.odd_things() if thing is not None] + [0, -1, -FAR, Share(1)]:
            self.refuse([(days, shares(1)), (None, shares(2))])
            self.refuse([(1, shares(1)), (days, shares(1)), (None, shares(2))])
            self.refuse([(days, shares(1))])
            self.refuse([(3, shares(1)), (days, shares(2))])

    def test_none_ahead_of_the_end(self):
        self.refuse([(None, shares(1)), (None, shares(2))])
        self.refuse([(1, shares(1)), (None, shares(1)), (1, shares(1)), (None, shares(2))])
        self.refuse([(None, shares(1)), (1, shares(2))])

    def test_a_number_in_the_last_stretch(self):
        for days in (1, 5, FAR, 0):
            self.refuse([(days, shares(1))])
            self.refuse([(1, shares(1)), (days, shares(2))])

    def test_a_word_that_is_none(self):
        for thing in plain.odd_things() + [1, Share(1), list(shares(1, 2)), {Share: 1}, always(1)]:
            self.refuse([(None, thing)])
            self.refuse([(1, thing), (None, shares(1))])
            self.refuse([(1, shares(1)), (None, thing)])

    def test_a_word_with_what_is_no_share(self):
        for thing in plain.odd_things() + [0, 1, always(1), shares(1)]:
            for word in ((thing,), (Share(1), thing), (thing, Share(1)), shares(*range(59)) + (thing,)):
                self.refuse([(None, word)])
                self.refuse([(9, word), (None, shares(1))])

    def test_a_stretch_that_is_none(self):
        for thing in plain.odd_things() + [1, shares(1), (None,), (None, shares(1), None), [None, shares(1)],
                                           (shares(1), None), Share(1), always(1)]:
            self.refuse([thing])
            self.refuse([thing, (None, shares(1))])
            self.refuse([(1, shares(1)), thing])

    def test_what_is_no_list(self):
        for thing in plain.odd_things() + [0, 1, ((None, shares(1)),), Share(1), always(1), {0: (None, shares(1))}]:
            self.refuse(thing)

    def test_the_list_stays_and_changing_it_changes_nothing(self):
        word = shares(1, 2)
        stretches = [(3, word), (None, shares(4))]
        told = Course(stretches)
        self.assertEqual(stretches, [(3, word), (None, shares(4))])
        stretches[0] = (9, shares(7))
        stretches.append(5)
        del stretches[1]
        self.assertEqual([on(told, day) for day in range(5)], list(shares(1, 2, 1, 4, 4)))
        stretches.clear()
        self.assertEqual(told, course((3, (1, 2)), (None, (4,))))


class TestAsking(unittest.TestCase):
    def chance(self, seed, **most):
        rng = random.Random(seed)
        for _ in range(600):
            stretches = plain.chance_stretches(rng, **most)
            yield rng, Course(stretches), stretches

    def test_on_and_sum_to_day_by_day(self):
        for _, told, stretches in self.chance(21, stretches=5, days=12, word=5):
            days = plain.days_of(stretches, 80)
            self.assertEqual([fraction(on(told, day)) for day in range(80)], days)
            self.assertEqual([fraction(sum_to(told, many)) for many in range(80)],
                             [sum(days[:many]) for many in range(80)])

    def test_about_the_ends_of_a_stretch(self):
        told = course((FAR, (1, 2, 3)), (5, (4, 5)), (FAR, (6, 7)), (None, (8, 9, 10)))
        for day, number in ((0, 1), (1, 2), (2, 3), (3, 1), (FAR - 1, 1), (FAR, 4), (FAR + 1, 5), (FAR + 4, 4),
                            (FAR + 5, 6), (FAR + 6, 7), (2 * FAR + 4, 7), (2 * FAR + 5, 8), (2 * FAR + 7, 10),
                            (10 ** 15, 8 + (10 ** 15 - 2 * FAR - 5) % 3)):
            self.assertEqual(on(told, day), Share(number), day)
        thirds = FAR // 3
        for days, number in ((0, 0), (1, 1), (2, 3), (3, 6), (FAR - 1, 6 * thirds), (FAR, 6 * thirds + 1),
                             (FAR + 1, 6 * thirds + 5), (FAR + 5, 6 * thirds + 23), (FAR + 6, 6 * thirds + 29),
                             (2 * FAR + 5, 6 * thirds + 23 + 13 * FAR // 2),
                             (2 * FAR + 8, 6 * thirds + 50 + 13 * FAR // 2)):
            self.assertEqual(sum_to(told, days), Share(number), days)

    def test_sums_are_exact(self):
        word = (Share(1, 3), Share(-1, 7), Share(10 ** 49, 11))
        told = Course([(10 ** 13 + 1, word), (None, (Share(1, 13),))])
        rounds, rest = divmod(10 ** 13 + 1, 3)
        whole = sum(fraction(share) for share in word) * rounds + sum(fraction(share) for share in word[:rest])
        self.assertEqual(fraction(sum_to(told, 10 ** 13 + 1)), whole)
        self.assertEqual(fraction(sum_to(told, 10 ** 15)), whole + fraction(Share(10 ** 15 - 10 ** 13 - 1, 13)))

    def test_a_word_begins_anew_with_each_stretch(self):
        told = course((2, (1, 2, 3)), (2, (1, 2, 3)), (None, (1, 2, 3)))
        self.assertEqual([on(told, day) for day in range(8)], list(shares(1, 2, 1, 2, 1, 2, 3, 1)))

    def test_the_last_day(self):
        self.assertEqual(on(always(1, 2), 10 ** 15), Share(1))
        self.assertEqual(sum_to(always(1, 2), 10 ** 15), Share(3 * 10 ** 15 // 2))
        self.assertEqual(sum_to(always(5), 0), Share(0))

    def test_no_days(self):
        for told in (always(1), course((FAR, (1, 2)), (None, (3,)))):
            for thing in plain.odd_things() + [10 ** 15 + 1, -1, -FAR, 10 ** 40, Share(1), Share(0), told]:
                for work in (on, sum_to):
                    with self.assertRaises(NoDay):
                        work(told, thing)


class TestEqual(unittest.TestCase):
    def check(self, one, other, day):
        self.assertEqual(first_unlike(one, other), day)
        self.assertEqual(first_unlike(other, one), day)
        for mine, theirs in ((one, other), (other, one)):
            self.assertIs(mine == theirs, day is None)
            self.assertIs(mine != theirs, day is not None)

    def test_told_otherwise(self):
        for one, other in (
                (always(1, 2), always(1, 2, 1, 2)), (always(3), always(3, 3, 3)),
                (always(1, 2), course((FAR, (1, 2)), (None, (1, 2)))),
                (always(1, 2), course((FAR + 1, (1, 2)), (None, (2, 1)))),
                (always(1, 2, 3), course((1, (1,)), (1, (2,)), (None, (3, 1, 2)))),
                (course((10, (1, 2)), (None, (5,))), course((4, (1, 2)), (6, (1, 2, 1, 2)), (None, (5, 5)))),
                (course((10, (1, 2)), (None, (5,))), course((3, (1, 2)), (7, (2, 1)), (None, (5,)))),
                (course((2, (1, 2, 3)), (None, (4,))), course((2, (1, 2, 9, 9)), (None, (4,)))),
                (course((2 * FAR, (1, 2, 3)), (None, (4,))),
                 course((FAR, (1, 2, 3)), (FAR, (2, 3, 1, 2, 3, 1)), (None, (4,))))):
            self.check(one, other, None)
            self.check(one, one, None)

    def test_one_day_otherwise(self):
        for day in (0, 1, 2, 5, 59, 60, 61, 10 ** 12, 10 ** 12 + 7, 10 ** 13 - 1, 10 ** 15):
            word = (1, 2, 3)
            there = tuple(word[(day + 1 + at) % 3] for at in range(3))
            ahead = [(day, word)] if day else []
            self.check(always(*word), course(*ahead, (1, (7,)), (None, there)), day)
            self.check(always(*word), course(*ahead, (1, (word[day % 3],)), (None, there)), None)
            self.check(always(*word), course(*ahead, (None, (7,))), day)

    def test_late_in_long_words(self):
        for one, other in ((59, 60), (60, 60), (1, 60), (58, 60)):
            mine = always(*[0] * (one - 1), 1)
            theirs = always(*[0] * (other - 1), 1)
            self.check(mine, theirs, None if one == other else min(one, other) - 1)
        long = always(*[0] * 59, 1)
        self.check(course((FAR * 60, [0] * 59 + [1]), (None, (0,))), long, FAR * 60 + 59)

    def test_as_many_days_alike_as_two_words_can_have(self):
        for one, other in ((3, 5), (7, 9), (31, 60), (59, 60)):
            numbers = plain.both_rounds(one, other)
            self.check(always(*numbers[:one]), always(*numbers[:other]), one + other - 2)
            begin = FAR * one
            self.check(always(*numbers[:one]), course((begin, numbers[:one]), (None, numbers[:other])),
                       begin + one + other - 2)
        self.check(always(0, 0, 0, 0, 1), always(0, 0, 0, 0, 1, 0), 9)
        self.check(always(0, 1, 0, 0, 1), always(0, 1, 0), 6)

    def test_chance_courses_day_by_day(self):
        rng = random.Random(31)
        alike = 0
        for _ in range(4000):
            one, other = [plain.chance_stretches(rng, stretches=3, days=4, word=2) for _ in range(2)]
            if rng.random() < 0.3:
                at = rng.randrange(len(one))
                days, word = one[at]
                other = one[:at] + [(1, word[:1]), (days and max(1, days - 1), word[1:] + word[:1])] + one[at + 1:]
            pairs = zip(plain.days_of(one, 40), plain.days_of(other, 40))
            day = min([day for day, (mine, theirs) in enumerate(pairs) if mine != theirs], default=None)
            self.check(Course(one), Course(other), day)
            alike += day is None
        self.assertTrue(200 < alike < 3800)

    def test_equal_to_nothing_else(self):
        for told in (always(0), always(1, 2), course((3, (1,)), (None, (2,)))):
            for thing in plain.odd_things() + [0, 1, Share(0), Share(1), [(None, shares(0))]]:
                self.assertIs(told == thing, False)
                self.assertIs(thing == told, False)
                self.assertIs(told != thing, True)


class TestEnd(unittest.TestCase):
    def check(self, told, begin, size):
        self.assertEqual(end(told), (begin, size))
        self.assertIsInstance(end(told), tuple)

    def test_words_that_repeat_within_themselves(self):
        self.check(always(1), 0, 1)
        self.check(always(1, 1, 1, 1), 0, 1)
        self.check(always(1, 2, 1, 2), 0, 2)
        self.check(always(1, 2, 1), 0, 3)
        self.check(always(*[1, 2, 3] * 20), 0, 3)
        self.check(always(*range(60)), 0, 60)

    def test_the_round_begun_ahead_of_the_last_stretch(self):
        self.check(course((FAR, (1, 2)), (None, (1, 2))), 0, 2)
        self.check(course((FAR, (2, 1)), (None, (1, 2))), FAR, 2)
        self.check(course((FAR + 1, (1, 2)), (None, (1, 2))), FAR + 1, 2)
        self.check(course((FAR + 1, (2, 1)), (None, (1, 2))), 0, 2)
        self.check(course((3, (5,)), (FAR, (1, 2, 1, 2)), (None, (1, 2))), 3, 2)

    def test_last_days_that_happen_to_fit(self):
        self.check(course((10, (5, 1, 2, 1, 2)), (None, (1, 2))), 6, 2)
        self.check(course((FAR, (3, 2)), (None, (3, 4, 2))), FAR - 1, 3)
        self.check(course((10, (9,)), (2, (7, 2)), (1, (1,)), (1, (2,)), (None, (1, 2))), 11, 2)
        self.check(course((5, (9, 2, 1)), (1, (1,)), (None, (2, 1))), 4, 2)
        self.check(course((5, (9, 2, 1)), (1, (1,)), (None, (2, 2, 1))), 4, 3)
        self.check(course((FAR, (0,)), (FAR, (1,)), (None, (0,))), 2 * FAR, 1)

    def test_an_end_that_reaches_back_to_day_0(self):
        self.check(course((1, (1,)), (1, (2,)), (3, (1, 2)), (FAR, (2, 1)), (None, (2, 1))), 0, 2)
        self.check(course(*[(1, (at % 7,)) for at in range(59)], (None, (3, 4, 5, 6, 0, 1, 2))), 0, 7)
        self.check(course((1, (9,)), *[(1, (at % 7,)) for at in range(58)], (None, (2, 3, 4, 5, 6, 0, 1))), 1, 7)

    def test_as_many_days_that_fit_as_two_words_can_have(self):
        for one, other in ((3, 5), (5, 3), (7, 9), (31, 60), (60, 59), (59, 60)):
            numbers = plain.both_rounds(one, other)
            told = course((FAR * one, numbers[-one:]), (None, numbers[-other:]))
            self.check(told, FAR * one - (one + other - 2), other)

    def test_long_rounds_that_fit_for_long(self):
        self.check(course((FAR * 59, [0] * 58 + [1]), (None, [0] * 59 + [1])), FAR * 59 - 59, 60)
        self.check(course((FAR * 59, [1] + [0] * 58), (None, [1] + [0] * 59)), FAR * 59 - 58, 60)
        self.check(course((FAR * 59, [1] + [0] * 58), (None, [0] * 59 + [1])), FAR * 59, 60)
        self.check(course((FAR, [0]), (None, [0] * 59 + [1])), FAR, 60)
        self.check(course((FAR, [0]), (None, [1] + [0] * 59)), FAR - 59, 60)

    def test_chance_courses_day_by_day(self):
        rng = random.Random(41)
        for _ in range(3000):
            stretches = plain.chance_stretches(rng, stretches=4, days=7, word=4)
            many = plain.settled_on(stretches) + 2 * lcm(1, 2, 3, 4)
            days = plain.days_of(stretches, many)
            size = min(size for size in range(1, 5) if days[many - 12:] == days[many - 12 - size:many - size])
            begin = min(day for day in range(many) if days[day + size:] == days[day:many - size])
            self.check(Course(stretches), begin, size)


class TestTakenAndLater(unittest.TestCase):
    def test_taken(self):
        told = course((3, (1, -2)), (FAR, (3,)), (None, (4, 5)))
        self.assertEqual(taken(Share(-1, 2), told), Course([
            (3, (Share(-1, 2), Share(1))), (FAR, (Share(-3, 2),)), (None, (Share(-2), Share(-5, 2)))]))
        self.assertEqual(taken(Share(1), told), told)
        self.assertEqual(told, course((3, (1, -2)), (FAR, (3,)), (None, (4, 5))))

    def test_taken_by_0(self):
        told = taken(Share(0), course((3, (1, -2)), (FAR, (3,)), (None, (4, 5))))
        self.assertEqual(told, always(0))
        self.assertEqual(end(told), (0, 1))

    def test_later(self):
        told = course((3, (1, 2)), (FAR, (3, 4, 5)), (None, (6, 7)))
        self.assertEqual(later(told, 0), told)
        self.assertEqual(later(told, 1), course((2, (2, 1)), (FAR, (3, 4, 5)), (None, (6, 7))))
        self.assertEqual(later(told, 3), course((FAR, (3, 4, 5)), (None, (6, 7))))
        self.assertEqual(later(told, 4), course((FAR - 1, (4, 5, 3)), (None, (6, 7))))
        self.assertEqual(later(told, FAR + 2), course((1, (3,)), (None, (6, 7))))
        self.assertEqual(later(told, FAR + 3), always(6, 7))
        self.assertEqual(later(told, FAR + 4), always(7, 6))
        self.assertEqual(later(told, 10 ** 15), always(7, 6))
        self.assertEqual(told, course((3, (1, 2)), (FAR, (3, 4, 5)), (None, (6, 7))))

    def test_later_of_later(self):
        rng = random.Random(51)
        for _ in range(1000):
            stretches = plain.chance_stretches(rng, stretches=5, days=9, word=4)
            one, other = rng.randint(0, 30), rng.randint(0, 30)
            told = later(later(Course(stretches), one), other)
            self.assertEqual([fraction(on(told, day)) for day in range(40)],
                             plain.days_of(stretches, one + other + 40)[one + other:])
            self.assertEqual(told, later(Course(stretches), one + other))
        far = later(later(always(1, 2, 3), 10 ** 15), 10 ** 15)
        self.assertEqual(far, always(3, 1, 2))

    def test_later_by_what_is_no_number_of_days(self):
        for thing in plain.odd_things() + [10 ** 15 + 1, -1, Share(0), Share(1), 10 ** 40]:
            with self.assertRaises(NoDay):
                later(always(1, 2), thing)

    def test_of_sixty_stretches(self):
        told = course(*[(2, range(at, at + 60)) for at in range(59)], (None, (59,)))
        self.assertEqual(taken(Share(2), told), course(*[(2, range(2 * at, 2 * at + 4, 2)) for at in range(59)],
                                                       (None, (118,))))
        self.assertEqual(on(later(told, 1), 0), Share(1))
        self.assertEqual(later(told, 2 * 59), always(59))
