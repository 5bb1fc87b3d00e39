"""Spans: the stretches of a course with the days on which they begin.

A span is a tuple (begin, stop, word): the word, a tuple of shares, is said
over and over from the day begin on, up to the day ahead of stop, for ever
where stop is None. The spans of a course stand in a list, without a gap, the
first from day 0 on, the last one without end. The words of a run are made of
numbers that stand for what is told (see rillweb.signs), not of shares.
"""

MOST_STRETCHES = 60
MOST_SHARES = 60


def least_word(word):
    """The shortest word that, said over and over, says the same."""
    for size in range(1, len(word) // 2 + 1):
        if len(word) % size == 0 and word[size:] == word[:-size]:
            return word[:size]
    return word


def spans_of(stretches):
    """The spans of a list of stretches (days, word)."""
    spans = []
    begin = 0
    for days, word in stretches:
        stop = None if days is None else begin + days
        spans.append((begin, stop, least_word(word[:days])))
        begin = stop
    return spans


def number_on(spans, day):
    """The number of the span in which a day lies."""
    first, last = 0, len(spans) - 1
    while first < last:
        middle = (first + last + 1) // 2
        if spans[middle][0] <= day:
            first = middle
        else:
            last = middle - 1
    return first


def share_on(span, day):
    """The share that the word of a span says on a day, were there no begin and no stop."""
    begin, _, word = span
    return word[(day - begin) % len(word)]


def word_from(span, day):
    """The word of a span as it would be said from a day on."""
    begin, _, word = span
    at = (day - begin) % len(word)
    return word[at:] + word[:at]


def sooner(one, other):
    """The less of two stops, of which None is never reached."""
    if one is None or other is None:
        return other if one is None else one
    return min(one, other)


def beside(one, other):
    """Two lists of spans side by side: tuples (begin, stop, span of the one, span of the other one)."""
    rows = []
    here = there = begin = 0
    while begin is not None:
        mine, theirs = one[here], other[there]
        stop = sooner(mine[1], theirs[1])
        rows.append((begin, stop, mine, theirs))
        here = here + 1 if mine[1] == stop else here
        there = there + 1 if theirs[1] == stop else there
        begin = stop
    return rows


def along(lists):
    """Some lists of spans side by side: tuples (begin, stop, list of a span of each)."""
    begins = sorted(set([span[0] for spans in lists for span in spans]))
    at = [0] * len(lists)
    rows = []
    for begin, stop in zip(begins, begins[1:] + [None]):
        for number, spans in enumerate(lists):
            if spans[at[number]][1] == begin:
                at[number] += 1
        rows.append((begin, stop, [spans[at[number]] for number, spans in enumerate(lists)]))
    return rows


def parted(spans, days):
    """Spans that say the same, of which each of some days begins one, too."""
    rows = []
    cuts = sorted(set(days))
    for span in spans:
        begin, stop, _ = span
        within = [day for day in cuts if begin < day and (stop is None or day < stop)]
        for first, last in zip([begin] + within, within + [stop]):
            rows.append((first, last, word_from(span, first)))
    return rows


def put_otherwise(spans, table):
    """Spans that say, for each number that some spans say, what stands there in a list."""
    return [(begin, stop, least_word(tuple([table[sign] for sign in word]))) for begin, stop, word in spans]


def round_of(spans):
    """A tuple (begin, round): the least round in which spans come round, from the least day on.

    The last word must be the shortest one that says the same.
    """
    last = spans[-1]
    size = len(last[2])
    for span in reversed(spans[:-1]):
        day = last_unlike_in(span, last, span[0], span[1])
        if day is not None:
            return (day + 1, size)
    return (0, size)


def last_unlike_in(one, other, begin, stop):
    """The last day from begin on, ahead of stop, for which two spans say unlike, None where there is none."""
    # On so many days alike, and they are alike on all of them.
    first = max(begin, stop - len(one[2]) - len(other[2]))
    for day in range(stop - 1, first - 1, -1):
        if share_on(one, day) != share_on(other, day):
            return day
    return None


def alike_from(one, other):
    """The least day from which on two lists of spans say the same for ever, None where they never do."""
    for begin, stop, mine, theirs in reversed(beside(one, other)):
        past = begin + len(mine[2]) + len(theirs[2]) if stop is None else stop
        day = last_unlike_in(mine, theirs, begin, past)
        if day is not None:
            return None if stop is None else day + 1
    return 0
