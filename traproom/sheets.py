"""Sheets of cues, the timings that they allow, and tables of bounds for differences of times."""

from traproom.errors import BadSheet
from traproom.kinds import is_index, is_number, is_tuple
from traproom.ratios import Ratio, is_less


def check_sheet(value):
    """Raise BadSheet if the value, which may be any, is no sheet."""
    if not is_tuple(value, 1, 8):
        raise BadSheet("a sheet is a tuple of 1 to 8 cues")
    for index, cue in enumerate(value):
        if not is_tuple(cue, 3, 3):
            raise BadSheet("a cue is a parent and two numbers")
        parent, low, high = cue
        if not is_index(parent, index, -1):
            raise BadSheet("the parent of a cue is an earlier cue, or -1")
        if not is_number(low) or not is_number(high) or is_less(low, Ratio(0)) or is_less(high, low):
            raise BadSheet("the wait of a cue is from a number of at least 0 to one that is not less")


def is_timing(sheet, times):
    """Return True if the list of times is a timing of the sheet, otherwise False."""
    if len(times) != len(sheet):
        return False
    for (parent, low, high), time in zip(sheet, times):
        wait = time if parent == -1 else time - times[parent]
        if is_less(wait, low) or is_less(high, wait):
            return False
    return True


def bounds(sheet):
    """Return the closed table of the times of the cues and, as the last one, the time 0."""
    last = len(sheet)
    table = [[None] * (last + 1) for _ in range(last + 1)]
    for cue, (parent, low, high) in enumerate(sheet):
        before = last if parent == -1 else parent
        table[cue][before] = high
        table[before][cue] = -low
    return closed(table)


def closed(table):
    """Return the table of the least sums along all ways, or None if a way from a time to itself is less than 0."""
    rows = [list(row) for row in table]
    for i, row in enumerate(table):
        rows[i][i] = _lesser(row[i], Ratio(0))
    for k in range(len(rows)):
        rows = _by_way_of(rows, k, k, Ratio(0))
        if any([is_less(row[i], Ratio(0)) for i, row in enumerate(rows)]):
            return None
    return rows


def with_bound(table, i, j, c):
    """Return a closed table with the further condition that the time i less the time j is at most c, or None."""
    back = table[j][i]
    if back is not None and is_less(back + c, Ratio(0)):
        return None
    return _by_way_of(table, i, j, c)


def some_times(table):
    """Return the greatest times, one after the other, that keep a closed table without None, and at last the time 0."""
    # In a closed table all times can be the greatest ones at once: the entry (i, last) is not more than the entry
    # (j, last) and the entry (i, j) together, so no time keeps a later one from its own bound.
    return [row[-1] for row in table]


def _by_way_of(rows, i, j, c):
    """Return a new table, in which each way may also go to i, on to j for c, and on from there."""
    onward = [_sum(c, entry) for entry in rows[j]]
    return [[_lesser(entry, _sum(row[i], more)) for entry, more in zip(row, onward)] for row in rows]


def _sum(a, b):
    """Return the sum of two entries; None, which stands for no bound, stays."""
    if a is None or b is None:
        return None
    return a + b


def _lesser(a, b):
    """Return the lesser one of two entries; None, which stands for no bound, is greater than all numbers."""
    if a is None:
        return b
    if b is None or not is_less(b, a):
        return a
    return b
