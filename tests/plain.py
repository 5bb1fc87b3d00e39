"""What the tests share: day by day reckoning with fractions, chance inputs, and odd things."""

from fractions import Fraction

from rillweb.courses import Course
from rillweb.shares import Share

MOST = 60


class Thing:
    """An object of no kind that the program knows."""


class Unhashed:
    """An object that is equal to nothing and has no hash."""

    __hash__ = None

    def __eq__(self, other):
        return False


def odd_things():
    """Things of many kinds that are no whole numbers, shares, courses, lists or tuples of them."""
    return [None, True, False, "", "1", "word", b"1", (), (1,), (0, 1), [], [1], [[]], {}, {1: 2}, {1}, set(),
            range(3), object(), Thing(), Unhashed(), int, len, Ellipsis, NotImplemented, ValueError("1"), 1j]


def fraction(share):
    """The fraction for which a share stands."""
    return Fraction(share.top, share.bottom)


def shares(*numbers):
    """A word of whole numbers."""
    return tuple(Share(number) for number in numbers)


def course(*stretches):
    """A course of stretches whose words are tuples of whole numbers."""
    return Course([(days, shares(*word)) for days, word in stretches])


def always(*word):
    """The course that says a word of whole numbers for ever."""
    return course((None, word))


def both_rounds(one, other):
    """one + other - 2 numbers that go by both rounds, which have no divisor in common, and are not all alike.

    They are the same from behind; with one number more they would be all alike.
    """
    many = one + other - 2
    linked, found = [0], {0}
    while linked:
        at = linked.pop()
        for there in (at - one, at + one, at - other, at + other):
            if 0 <= there < many and there not in found:
                found.add(there)
                linked.append(there)
    return [int(at not in found) for at in range(many)]


def days_of(stretches, many):
    """The fractions that stretches tell on the first so many days, day by day."""
    told = []
    for days, word in stretches:
        for at in range(many if days is None else days):
            if len(told) == many:
                return told
            told.append(fraction(word[at % len(word)]))
    return told


def chance_word(rng, most):
    """A word of a few kinds of shares, so that they are often the same."""
    return tuple(Share(rng.choice((-1, 0, 1, 1, 2)), rng.choice((1, 1, 1, 2, 3))) for _ in range(rng.randint(1, most)))


def chance_stretches(rng, *, stretches, days, word):
    """A list of chance stretches, each number up to its most."""
    many = rng.randint(1, stretches)
    return [(rng.randint(1, days), chance_word(rng, word)) for _ in range(many - 1)] + [(None, chance_word(rng, word))]


def settled_on(stretches):
    """The day on which the last stretch begins."""
    return sum(days for days, _ in stretches[:-1])


def fewest_stretches(told, come_round, settled):
    """The stretches (begin, days, length of the word), each the longest that there is, of fractions day by day.

    From the day settled on they come round by come_round; they are told far beyond.
    """
    found = []
    begin = 0
    while True:
        stop, size = max((longest(told, begin, size), -size) for size in range(1, MOST + 1))
        if stop == len(told):
            assert len(told) - max(begin, settled) >= come_round + MOST
            return found + [(begin, None, -size)]
        found.append((begin, stop - begin, -size))
        begin = stop


def longest(told, begin, size):
    """How far from a day on a word of some length will do."""
    day = min(begin + size, len(told))
    while day < len(told) and told[day] == told[day - size]:
        day += 1
    return day
