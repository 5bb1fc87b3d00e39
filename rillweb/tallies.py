"""Tallies: what spans come to from day 0 on, without adding all of it anew for each day that is asked for."""

from rillweb.shares import Share, times, total
from rillweb.spans import number_on


class Tally:
    """The sums of whole numbers that spans say."""

    def __init__(self, spans):
        self.spans = spans
        self.sums = []
        self.starts = []
        past = 0
        for begin, stop, word in spans:
            starts = [0]
            for number in word:
                starts.append(starts[-1] + number)
            self.starts.append(starts)
            self.sums.append(past)
            if stop is not None:
                past = past + sum_in(starts, stop - begin)

    def first(self, days):
        """The sum on the first so many days."""
        at = number_on(self.spans, days)
        return self.sums[at] + sum_in(self.starts[at], days - self.spans[at][0])


def sum_in(starts, days):
    """The sum of so many days of a word, said over and over, of which the sums of its beginnings are told."""
    rounds, rest = divmod(days, len(starts) - 1)
    return rounds * starts[-1] + starts[rest]


class ShareTally:
    """The sums of shares that spans say."""

    def __init__(self, spans):
        self.spans = spans
        self.sums = []
        self.wholes = []
        past = Share(0)
        for begin, stop, word in spans:
            whole = total(word)
            self.wholes.append(whole)
            self.sums.append(past)
            if stop is not None:
                past = total([past] + shares_in(word, whole, stop - begin))

    def first(self, days):
        """The sum on the first so many days."""
        at = number_on(self.spans, days)
        begin, _, word = self.spans[at]
        return total([self.sums[at]] + shares_in(word, self.wholes[at], days - begin))


def shares_in(word, whole, days):
    """Shares that come to the sum of so many days of a word, said over and over, of which the whole is told."""
    rounds, rest = divmod(days, len(word))
    return [times(Share(rounds), whole)] + list(word[:rest])
