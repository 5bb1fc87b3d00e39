"""Tellings: days told by the longest stretches, one after the other, so by as few as can be.

What is said on a day is a share, or a number that stands for what is told. It
is asked of rows that hold for some days: rows.sign(day) says it, and
rows.reach are so many days that where the rows, and a word of some length, say
the same on reach and this length of days in a row, they say the same for as
long as the rows hold.
"""


class Rows:
    """A word that is said over and over from a day on."""

    def __init__(self, begin, word):
        self.begin = begin
        self.word = word
        self.reach = len(word)

    def sign(self, day):
        """What is said on a day."""
        return self.word[(day - self.begin) % self.reach]


class Telling:
    """A stretch that is being told from a day on, as long as some word of at most so many shares will do.

    told is what is said on its first days. borders[at] is the length of the
    longest beginning of told[:at + 1], but for all of it, that is its end, too:
    so the shortest word that will do is known without trying each length.
    """

    def __init__(self, begin, most):
        self.begin = begin
        self.most = most
        self.told = []
        self.borders = []
        self.is_sure = False

    def size(self):
        """The length of the shortest word that will do till now."""
        return len(self.told) - self.borders[-1]

    def border_with(self, sign):
        """The border that told would have with one more day."""
        if not self.told:
            return 0
        border = self.borders[-1]
        while border > 0 and self.told[border] != sign:
            border = self.borders[border - 1]
        return border + 1 if self.told[border] == sign else 0

    def takes(self, day, sign):
        """Whether the stretch goes on with what is said on a day, which is then told."""
        if self.is_sure:
            return self.told[(day - self.begin) % self.size()] == sign
        border = self.border_with(sign)
        if len(self.told) + 1 - border > self.most:
            return False
        self.told.append(sign)
        self.borders.append(border)
        return True

    def is_long(self, stop):
        """Whether up to a day it is so long that no word that will do outlasts the shortest one.

        On twice the most days of a word all of them are the shortest one, said over and over.
        """
        return stop is None or stop - self.begin >= 2 * self.most

    def span(self, stop):
        """The span up to a day."""
        return (self.begin, stop, tuple(self.told[:self.size()]))


class Teller:
    """Tells days by the longest stretches; done are the spans that are told to their ends."""

    def __init__(self, shares, stretches):
        self.most_shares = shares
        self.most_stretches = stretches
        self.done = []
        self.telling = Telling(0, shares)

    def take(self, begin, stop, rows):
        """Tell what rows say up to a day; whether the stretches are not too many till now."""
        day = since = begin
        while stop is None or day < stop:
            sign = rows.sign(day)
            if not self.telling.takes(day, sign):
                self.done.append(self.telling.span(day))
                if len(self.done) == self.most_stretches:
                    return False
                self.telling = Telling(day, self.most_shares)
                self.telling.takes(day, sign)
                since = day
            day += 1
            if day - since >= self.telling.size() + rows.reach and self.telling.is_long(stop):
                self.telling.is_sure = True
                break
        return True

    def all_spans(self):
        """All spans, the last of them without end."""
        return self.done + [self.telling.span(None)]


def retold(spans, shares, stretches):
    """Spans that say the same, as few as can be; None where they are too many."""
    teller = Teller(shares, stretches)
    for begin, stop, word in spans:
        if not teller.take(begin, stop, Rows(begin, word)):
            return None
    return teller.all_spans()
