"""Shares (1.1)."""

import random
import unittest
from fractions import Fraction

import plain

from rillweb.errors import NoShare, RillError
from rillweb.shares import Share, less, minus, over, plus, times, total


def parts(share):
    return (share.top, share.bottom)


class TestMaking(unittest.TestCase):
    def test_lowest_terms_with_the_bottom_above_0(self):
        for top, bottom, told in ((6, 4, (3, 2)), (-6, 4, (-3, 2)), (6, -4, (-3, 2)), (-6, -4, (3, 2)),
                                  (0, 5, (0, 1)), (0, -5, (0, 1)), (5, 5, (1, 1)), (7, -7, (-1, 1)),
                                  (12, 3, (4, 1)), (3, 12, (1, 4)), (1, -1, (-1, 1))):
            self.assertEqual(parts(Share(top, bottom)), told)

    def test_the_bottom_is_1_where_none_is_told(self):
        for top in (-3, 0, 1, 10 ** 60):
            self.assertEqual(parts(Share(top)), (top, 1))

    def test_numbers_of_fifty_figures(self):
        one, other = 10 ** 49 + 9, 10 ** 50 + 151
        self.assertEqual(parts(Share(one * 6, other * -4)), (-3 * one, 2 * other))
        self.assertEqual(parts(Share(one ** 3, one ** 2)), (one, 1))

    def test_chance_shares_as_fractions(self):
        rng = random.Random(11)
        for _ in range(2000):
            top, bottom = rng.randint(-40, 40), rng.choice((-1, 1)) * rng.randint(1, 40)
            whole = Fraction(top, bottom)
            self.assertEqual(parts(Share(top, bottom)), (whole.numerator, whole.denominator))

    def test_refused(self):
        for thing in plain.odd_things() + [Share(1)]:
            for arguments in ((thing,), (thing, 1), (1, thing), (thing, thing), (thing, 0), (0, thing)):
                with self.assertRaises(NoShare):
                    Share(*arguments)
        for top in (0, 1, -1, 10 ** 50):
            with self.assertRaises(NoShare):
                Share(top, 0)

    def test_refused_with_a_text(self):
        with self.assertRaises(RillError) as caught:
            Share(1, 0)
        self.assertTrue(str(caught.exception))


class TestEqual(unittest.TestCase):
    def test_equal_just_where_they_stand_for_one_number(self):
        rng = random.Random(12)
        for _ in range(2000):
            one = (rng.randint(-6, 6), rng.choice((-3, -2, -1, 1, 2, 3)))
            other = (rng.randint(-6, 6), rng.choice((-3, -2, -1, 1, 2, 3)))
            same = Fraction(*one) == Fraction(*other)
            self.assertIs(Share(*one) == Share(*other), same)
            self.assertIs(Share(*one) != Share(*other), not same)

    def test_equal_to_nothing_that_is_no_share(self):
        for share in (Share(0), Share(1), Share(1, 2)):
            for thing in plain.odd_things() + [0, 1, -1, Fraction(0), Fraction(1, 2), parts(share), list(parts(share))]:
                self.assertIs(share == thing, False)
                self.assertIs(thing == share, False)
                self.assertIs(share != thing, True)
                self.assertIs(thing != share, True)


class TestReckoning(unittest.TestCase):
    def setUp(self):
        rng = random.Random(13)
        small = [Share(rng.randint(-9, 9), rng.randint(1, 9)) for _ in range(400)]
        large = [Share(rng.randint(-10 ** 50, 10 ** 50), rng.randint(1, 10 ** 50)) for _ in range(100)]
        self.pairs = list(zip(small + large, reversed(large + small)))

    def check(self, share, number):
        self.assertIsInstance(share, Share)
        self.assertEqual(parts(share), (number.numerator, number.denominator))

    def test_plus_minus_times(self):
        for one, other in self.pairs:
            here, there = plain.fraction(one), plain.fraction(other)
            self.check(plus(one, other), here + there)
            self.check(minus(one, other), here - there)
            self.check(times(one, other), here * there)

    def test_over(self):
        for one, other in self.pairs:
            if other != Share(0):
                self.check(over(one, other), plain.fraction(one) / plain.fraction(other))
        self.check(over(Share(0), Share(-3, 7)), Fraction(0))

    def test_over_by_0_is_refused(self):
        for share in (Share(0), Share(1), Share(-10 ** 50, 3)):
            with self.assertRaises(NoShare):
                over(share, Share(0))

    def test_less(self):
        for one, other in self.pairs:
            self.assertIs(less(one, other), plain.fraction(one) < plain.fraction(other))
            self.assertIs(less(one, one), False)
        self.assertIs(less(Share(-1, 2), Share(-1, 3)), True)
        self.assertIs(less(Share(2, 4), Share(1, 2)), False)

    def test_whole_numbers(self):
        for one in range(-5, 6):
            for other in range(-5, 6):
                self.assertEqual(plus(Share(one), Share(other)), Share(one + other))
                self.assertEqual(minus(Share(one), Share(other)), Share(one - other))
                self.assertEqual(times(Share(one), Share(other)), Share(one * other))
                self.assertIs(less(Share(one), Share(other)), one < other)

    def test_what_is_handed_in_stays(self):
        one, other = Share(1, 2), Share(-1, 3)
        for work in (plus, minus, times, over, less):
            work(one, other)
        self.assertEqual((parts(one), parts(other)), ((1, 2), (-1, 3)))

    def test_total(self):
        self.assertEqual(total([]), Share(0))
        for many in (1, 2, 7):
            some = [one for one, _ in self.pairs[:many]]
            self.check(total(some), sum(plain.fraction(share) for share in some))
