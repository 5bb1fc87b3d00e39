"""Spans: the stretches of a course with the days on which they begin.

A span is a tuple (begin, stop, word): the word, a tuple of shares, is said
over and over from the day begin on, up to the day ahead of stop, for ever
where stop is None. The spans of a course stand in a list, without a gap, the
first from day 0 on, the last one without end.
"""

MOST_STRETCHES = 60
MOST_SHARES = 60


def least_word(word):
    """The shortest word that, said over and over, says the same."""
    for size in range(1, len(word)):
        if len(word) % size == 0 and word[size:] == word[:-size]:
            return word[:size]
    return word


def spans_of(stretches):
    """The spans of a list of stretches (days, word)."""
    spans = []
    begin = 0
    for days, word in stretches:
        stop = None if days is None else begin + days
        spans.append((begin, stop, least_word(word[:days])))
        begin = stop
    return spans


def span_on(spans, day):
    """The span in which a day lies."""
    return [span for span in spans if span[0] <= day][-1]


def share_on(span, day):
    """The share that the word of a span says on a day, were there no begin and no stop."""
    begin, _, word = span
    return word[(day - begin) % len(word)]


def aligned(span):
    """The word of a span as it would be said from day 0 on."""
    begin, _, word = span
    at = -begin % len(word)
    return word[at:] + word[:at]


def sooner(one, other):
    """The less of two stops, of which None is never reached."""
    if one is None or other is None:
        return other if one is None else one
    return min(one, other)


def beside(one, other):
    """Two lists of spans side by side: tuples (begin, stop, span of the one, span of the other one)."""
    rows = []
    here = there = begin = 0
    while begin is not None:
        mine, theirs = one[here], other[there]
        stop = sooner(mine[1], theirs[1])
        rows.append((begin, stop, mine, theirs))
        here += 1 if mine[1] == stop else 0
        there += 1 if theirs[1] == stop else 0
        begin = stop
    return rows
