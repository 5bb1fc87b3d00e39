"""Walks through the days of a place with two beds.

The gap is by how much the bed that stands ahead is deeper than the other one:
so it is first where the gap is not below 0. While a word of waters is said
over and over, the gap alone, on a morning on which the word begins, tells all
that comes. Where the gap is so wide that the same bed stays first through the
whole word, it grows or falls by the same number word by word, and these are
walked at once; and where a gap comes back, all that was between comes again.
"""

from rillweb.spans import least_word, parted, sooner


class Side:
    """A word of waters as it goes while the same bed is first: ahead is 1 where this is the one ahead, else 0."""

    def __init__(self, waters, gains, ahead):
        self.ahead = ahead
        self.signs = tuple([2 * number + ahead for number in waters])
        self.least = 0
        self.whole = 0
        for sign in self.signs:
            self.least = min(self.least, self.whole)
            self.whole = self.whole + gains[sign] if ahead == 1 else self.whole - gains[sign]

    def rounds(self, gap):
        """In how many words from a gap on this bed stays first, None where it does for ever."""
        # By so much the bed could come nearer and still be first: a gap of 0 is for the bed ahead.
        room = gap if self.ahead == 1 else -1 - gap
        if room + self.least < 0:
            return 0
        return None if self.whole >= 0 else (room + self.least) // -self.whole + 1


class Walk:
    """A walk from day 0 on; told are the spans of the signs of the days that were walked through."""

    def __init__(self, gap, gains):
        self.gap = gap
        self.gains = gains
        self.day = 0
        self.told = []

    def tell(self, word, days):
        """Tell that a word of signs is said on the next so many days, without end where they are None."""
        stop = None if days is None else self.day + days
        self.told.append((self.day, stop, word))
        self.day = stop

    def go(self, waters):
        """Walk day by day."""
        word = []
        for number in waters:
            sign = 2 * number + 1 if self.gap >= 0 else 2 * number
            word.append(sign)
            self.gap = self.gap + self.gains[sign]
        self.tell(tuple(word), len(word))

    def go_turned(self, number):
        """Walk through a day on which a tie is turned."""
        if self.gap == 0:
            self.tell((2 * number,), 1)
            self.gap = self.gains[2 * number]
        else:
            self.go([number])

    def go_word(self, waters, sides, stop):
        """Walk through a word, or through as many as there are up to a day with the same bed first."""
        for side in sides:
            rounds = side.rounds(self.gap)
            if rounds != 0:
                left = None if stop is None else (stop - self.day) // len(waters)
                rounds = sooner(rounds, left)
                if rounds is None:
                    self.tell(side.signs, None)
                else:
                    self.tell(side.signs, rounds * len(waters))
                    self.gap = self.gap + (rounds * side.whole if side.ahead == 1 else -rounds * side.whole)
                return
        self.go(waters)

    def go_again(self, since, stop):
        """Walk once more, and as often as there is time for, through all that was told from a number of span on."""
        word = []
        for begin, past, signs in self.told[since:]:
            word.extend(signs * ((past - begin) // len(signs)))
        days = None if stop is None else (stop - self.day) // len(word) * len(word)
        if days != 0:
            self.tell(least_word(tuple(word)), days)

    def go_to(self, stop, waters):
        """Walk up to a day through a word of waters that is said over and over."""
        sides = [Side(waters, self.gains, 1), Side(waters, self.gains, 0)]
        size = len(waters)
        found = {}
        while self.day is not None and (stop is None or self.day + size <= stop):
            if self.gap in found:
                self.go_again(found[self.gap], stop)
                # What is left is shorter than a round, so nothing comes back.
                found = {}
            else:
                found[self.gap] = len(self.told)
                self.go_word(waters, sides, stop)
        if self.day is not None and self.day < stop:
            self.go(waters[:stop - self.day])


def choices(waters, gains, gap, digs, turned):
    """The spans of the signs of a place with two beds, by the spans of the numbers of its waters.

    digs is a dict {day: by how much the gap is made greater}, turned the days on which a tie is turned.
    """
    walk = Walk(gap, gains)
    for begin, stop, word in parted(waters, list(digs) + turned + [day + 1 for day in turned]):
        walk.gap = walk.gap + digs.get(begin, 0)
        if begin in turned:
            walk.go_turned(word[0])
        else:
            walk.go_to(stop, word)
    return walk.told
