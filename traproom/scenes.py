"""Scenes: how far a fault has come at the time t, and the tables that bound the times.

Such a table bounds the times of the cues, f, t and the time 0, in this order. Limits and variables are told as in
traproom/phases.py.
"""

from traproom.ratios import Ratio, is_less
from traproom.sheets import bounds, closed, with_bound


class Scene:
    """The limits under which a fault has come so far, the variable r (the time since a stop), and views.

    A view (index, lag, is_stopped) of each machine says that it is where it was `lag` later than the time with this
    index, or where a stop at that time has brought it. Without a stop r is None.
    """

    def __init__(self, limits, since, views):
        self.limits = limits
        self.since = since
        self.views = views


def scenes(show, fault):
    """Return the list of the scenes of a fault; each moment belongs to one of them."""
    f, t, zero = further_times(show)
    count = len(show[1])
    going = [(t, Ratio(0), False)] * count
    if fault[0] == "none":
        return [Scene([(f, zero, Ratio(0))], None, going)]
    if fault[0] == "stop":
        return [Scene([], (t, f, Ratio(0)), [(f, Ratio(0), True)] * count)]
    _, seized, lag = fault
    braked = [(f, lag, True)] * count
    going[seized] = braked[seized] = (f, Ratio(0), False)
    return [Scene([(t, f, lag)], None, going), Scene([(f, t, -lag)], (t, f, -lag), braked)]


def further_times(show):
    """Return the indices of f, t and the time 0 in a table."""
    count = len(show[0])
    return count, count + 1, count + 2


def table_of(sheet):
    """Return the closed table of the times of a sheet, f, t and the time 0, f being at least 0, and t at least f."""
    zero = Ratio(0)
    unbound = [None] * len(sheet)
    rows = [[*row[:-1], None, None, row[-1]] for row in bounds(sheet)]
    rows = [*rows[:-1], [*unbound, None, zero, None], [*unbound, None, None, None], rows[-1]]
    rows[-1][len(sheet)] = zero
    return closed(rows)


def limited(table, limits):
    """Return the closed table with these limits, the same one if it has them already; None if no times keep them."""
    # Adding a limit is slow. Most tables either exclude one of the limits, or have some of them: this is quick to see.
    for i, j, c in limits:
        back = table[j][i]
        if back is not None and is_less(back + c, Ratio(0)):
            return None
    for i, j, c in limits:
        if table is not None and (table[i][j] is None or is_less(c, table[i][j])):
            table = with_bound(table, i, j, c)
    return table
