"""Flows: the waters of a place, told day by day out of what comes to it."""

from rillweb.shares import total
from rillweb.spans import MOST_SHARES, MOST_STRETCHES, along
from rillweb.tellings import Teller


class Inflow:
    """What comes to a place: for its rain, and each place above it, a list of shares by their signs."""

    def __init__(self, signs, lists):
        self.signs = signs
        self.lists = lists
        self.numbers = {}

    def number_of(self, key):
        """The number of the water, where some signs, one for each list, come together."""
        if key not in self.numbers:
            self.numbers[key] = self.signs.number_of(total([shares[at] for shares, at in zip(self.lists, key)]))
        return self.numbers[key]


class Together:
    """The waters of a place on days on which what comes to it is said by some spans.

    All words of one length are one row of the sum (see rillweb.sums).
    """

    def __init__(self, inflow, spans):
        self.inflow = inflow
        self.words = [(begin, word, len(word)) for begin, _, word in spans]
        self.reach = sum(sorted(set([len(word) for _, _, word in spans])))

    def sign(self, day):
        """The number of the water of a day."""
        return self.inflow.number_of(tuple([word[(day - begin) % size] for begin, word, size in self.words]))


def waters_told(inflow, courses):
    """The spans of the numbers of the waters; None where they are too many."""
    if len(courses) == 1:
        return [(begin, stop, tuple([inflow.number_of((sign,)) for sign in word])) for begin, stop, word in courses[0]]
    teller = Teller(MOST_SHARES, MOST_STRETCHES)
    for begin, stop, spans in along(courses):
        if not teller.take(begin, stop, Together(inflow, spans)):
            return None
    return teller.all_spans()
