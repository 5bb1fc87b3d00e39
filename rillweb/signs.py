"""Signs: numbers that stand for what a place has on a day.

The waters that a place has are numbered as they are met. The sign of a day is
twice the number of its water, and one more where the bed that stands ahead is
first, or where there are no two beds. So two days have the same sign just where
the water and the choice are the same; and each sign tells what the beds bear,
and their steps in the evening.
"""

from rillweb.webs import move_of, parts_borne


def key_of(share):
    """What two shares have in common just where they are equal, to be found by."""
    return (share.top, share.bottom)


def numbered(spans):
    """The shares that the words of some spans say, each once, and the spans of their numbers."""
    shares = []
    numbers = {}
    told = []
    for begin, stop, word in spans:
        for share in word:
            if key_of(share) not in numbers:
                numbers[key_of(share)] = len(shares)
                shares.append(share)
        told.append((begin, stop, tuple([numbers[key_of(share)] for share in word])))
    return (shares, told)


class Signs:
    """The signs of a place: waters by their numbers; what its beds bear, and their steps, by the signs."""

    def __init__(self, parts, beds):
        self.parts = parts
        self.beds = beds
        self.waters = []
        self.numbers = {}
        self.bears = []
        self.steps = []

    def number_of(self, share):
        """The number of a water."""
        key = key_of(share)
        if key not in self.numbers:
            self.numbers[key] = len(self.waters)
            self.waters.append(share)
            for ahead_is_first in (False, True):
                shares = parts_borne(self.parts, share, ahead_is_first)
                self.bears.append(shares)
                self.steps.append([move_of(bed, each) for bed, each in zip(self.beds, shares)])
        return self.numbers[key]

    def water_of_sign(self):
        """The waters by the signs."""
        return [self.waters[sign // 2] for sign in range(len(self.bears))]

    def borne_of_sign(self, at):
        """What the bed at a place in the order bears, by the signs."""
        return [shares[at] for shares in self.bears]

    def steps_of_sign(self, at):
        """The steps of the bed at a place in the order, by the signs."""
        return [steps[at] for steps in self.steps]

    def gains_of_sign(self):
        """How much deeper the bed ahead becomes against the other one, by the signs."""
        return [steps[0] - steps[1] for steps in self.steps]
