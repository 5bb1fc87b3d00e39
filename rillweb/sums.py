"""Sums of courses, parted into as few stretches as can be.

Where no course begins a new stretch, the sum goes by rows: for each length of
words one row, all words of this length added, as they would be said from day 0
on. As the document has it (2.4), a sum of rows that is 0 on as many days in a
row as their lengths come to is 0 for as long as the rows hold; so many days
are their reach.
"""

from rillweb.errors import TooLong
from rillweb.shares import total
from rillweb.spans import MOST_SHARES, MOST_STRETCHES, share_on, word_from
from rillweb.tellings import Teller


def rows_of(spans):
    """The rows {length: shares} of the words of some spans, those of nothing but 0 left out."""
    words = {}
    for span in spans:
        words.setdefault(len(span[2]), []).append(word_from(span, 0))
    rows = {}
    for size, group in words.items():
        row = [total(shares) for shares in zip(*group)]
        if any([share.top != 0 for share in row]):
            rows[size] = row
    return rows


def rows_between(begin, stop, spans):
    """The rows of some spans that hold from a day on up to another one.

    Few days are added one by one: to add whole words for them would be more work.
    """
    if stop is not None and stop - begin <= MOST_SHARES:
        word = [total([share_on(span, day) for span in spans]) for day in range(begin, stop)]
        return rows_of([(begin, stop, tuple(word))])
    return rows_of(spans)


def sum_on(rows, day):
    """The sum that rows have on a day."""
    return total([row[day % size] for size, row in rows.items()])


def are_same(one, other):
    """Whether two dicts of rows have the same sum on each day."""
    reach = sum([size for size in one if size not in other]) + sum(list(other))
    for day in range(reach):
        if sum_on(one, day) != sum_on(other, day):
            return False
    return True


def changes_of(courses):
    """The days on which some of the courses, lists of spans, begin new spans, each with these."""
    changes = {}
    for at, spans in enumerate(courses):
        for span in spans[1:]:
            changes.setdefault(span[0], []).append((at, span))
    return [(day, changes[day]) for day in sorted(changes)]


def pieces(courses):
    """Tuples (begin, stop, rows), one after the other: the days parted where the sum goes by other rows.

    Where courses change and their sum does not, the days are not parted: so
    twins that come to nothing cost little, however many stretches they have.
    """
    now = [spans[0] for spans in courses]
    begin = 0
    for day, changes in changes_of(courses):
        old = rows_of([now[at] for at, _ in changes])
        new = rows_of([span for _, span in changes])
        if not are_same(old, new):
            yield (begin, day, rows_between(begin, day, now))
            begin = day
        for at, span in changes:
            now[at] = span
    yield (begin, None, rows_between(begin, None, now))


class RowsAdded:
    """Rows of which the sum is said, on any day."""

    def __init__(self, rows):
        self.rows = rows
        self.reach = sum(list(rows))

    def sign(self, day):
        """The sum on a day."""
        return sum_on(self.rows, day)


def spans_of_sum(courses):
    """The spans of the sum of courses, lists of spans; TooLong where they are too many."""
    teller = Teller(MOST_SHARES, MOST_STRETCHES)
    for begin, stop, rows in pieces(courses):
        if not teller.take(begin, stop, RowsAdded(rows)):
            raise TooLong(None)
    return teller.all_spans()
