"""Twins: two webs on each of which the same amount falls at one place alone, day by day.

A morning of both is told by their gaps together, those of the one ahead; only
which of them are below 0 tells what becomes of an amount.
"""

from rillweb.amounts import amount_in, flow_from, parts_by_moves
from rillweb.webs import gaps_of, leads_of


class Twins:
    """Two webs, a place of each at which amounts fall, and pairs of places that are looked at."""

    def __init__(self, webs, places, pairs):
        self.webs = webs
        self.places = places
        self.pairs = sorted(set(pairs))
        self.flows = {}
        self.apart = {}
        self.ways = {}

    def flow(self, which, leads):
        """What the places have, and the beds bear, of the amount 1 in one of both webs, by the leads of both."""
        many = self.webs[0].many
        own = leads[:many] if which == 0 else leads[many:]
        if (which, own) not in self.flows:
            self.flows[which, own] = flow_from(self.webs[which], own, self.places[which])
        return self.flows[which, own]

    def are_apart(self, gaps):
        """Whether, on a morning with some gaps, the places of some pair have unlike water, but of the amount 0."""
        leads = leads_of(gaps)
        if leads not in self.apart:
            mine, theirs = self.flow(0, leads)[0], self.flow(1, leads)[0]
            self.apart[leads] = any([mine[here] != theirs[there] for here, there in self.pairs])
        return self.apart[leads]

    def ways_on(self, gaps):
        """Tuples (gains, amount): all by which a morning's gaps can go on, each with an amount that does it."""
        leads = leads_of(gaps)
        if leads not in self.ways:
            one, other = self.webs
            factors = self.flow(0, leads)[1] + self.flow(1, leads)[1]
            found = {}
            for stretch, moves in parts_by_moves(one.beds + other.beds, factors):
                gains = gaps_of(one, moves[:len(one.beds)]) + gaps_of(other, moves[len(one.beds):])
                found[gains] = amount_in(stretch)
            self.ways[leads] = list(found.items())
        return self.ways[leads]

    def next_mornings(self, mornings):
        """All gaps of the next morning by those of a morning, a dict of lists of the amounts that lead to each."""
        found = {}
        for gaps, amounts in mornings.items():
            for gains, amount in self.ways_on(gaps):
                later = tuple([gap + gain for gap, gain in zip(gaps, gains)])
                if later not in found:
                    found[later] = amounts + [amount]
        return found
