"""Ties: the days on which both beds of a place are of one depth."""

from rillweb.spans import least_word


def spans_of_ties(spans, gaps):
    """Spans of 1 on the days with a tie, else of 0.

    The spans handed in are of what the gap gains from each day to the next one, but for digs, each of which begins
    one; gaps are those of the days on which they begin.
    """
    told = []
    for (begin, stop, gains), gap in zip(spans, gaps):
        for span in ties_within(begin, stop, gains, gap):
            if told and told[-1][2] == span[2] == (0,):
                told[-1] = (told[-1][0], span[1], (0,))
            else:
                told.append(span)
    return told


def ties_within(begin, stop, gains, gap):
    """Spans of 1 and 0 from a day on up to another one, while gains come over and over, with no digs."""
    if sum(gains) != 0:
        return ones_on(lone_days(begin, stop, gains, gap), begin, stop)
    word = []
    for gain in gains:
        word.append(1 if gap == 0 else 0)
        gap = gap + gain
    days = None if stop is None else stop - begin
    return [(begin, stop, least_word(tuple(word[:days])))]


def lone_days(begin, stop, gains, gap):
    """The days with a tie where the gap isn't the same again after a round: at most one for each day of it."""
    whole = sum(gains)
    days = []
    for late, gain in enumerate(gains):
        rounds = -gap // whole
        day = begin + late + rounds * len(gains)
        if gap + rounds * whole == 0 and rounds >= 0 and (stop is None or day < stop):
            days.append(day)
        gap = gap + gain
    return sorted(days)


def ones_on(days, begin, stop):
    """Spans of 1 on some days, and of 0 on all others from a day on up to another one."""
    spans = []
    for day in days:
        if begin < day:
            spans.append((begin, day, (0,)))
        spans.append((day, day + 1, (1,)))
        begin = day + 1
    if begin != stop:
        spans.append((begin, stop, (0,)))
    return spans
