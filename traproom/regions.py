"""Points and regions: linear equations, vertices, and whether a region is empty.

This file computes with integers, which is quicker than with fractions. A row is a form times a number above 0: its
coefficients, and its constant as the last entry. A place is a point times a number above 0: its coordinates, and that
number as the last entry. The sign of a form at a point is that of the sum of the products of row and place.
"""

from itertools import combinations
from math import lcm

from traproom.ratios import Ratio, is_less


def is_inside(region, point):
    """Return True if all forms of the region have values of at least 0 at the point, otherwise False."""
    return _keeps(_rows_of(region), _whole([*point, Ratio(1)]))


def solve(rows, constants):
    """Return the only solution of the equations, or None if there is not just one; there is at least one row."""
    zeros = [_whole([*row, -constant]) for row, constant in zip(rows, constants)]
    place = _common_zero(zeros, len(rows[0]))
    if place is None:
        return None
    return _point_of(place)


def vertices(region, n):
    """Return the ascending list of all vertices of a region in n variables, bounded or not."""
    rows = _rows_of(region)
    found = []
    for chosen in combinations(rows, n):
        place = _common_zero(chosen, n)
        if place is not None and _keeps(rows, place):
            _insert(found, _point_of(place))
    return found


def is_empty(region, n):
    """Return True if a bounded region in n variables has no point, otherwise False."""
    rows = _rows_of(region)
    for chosen in combinations(rows, n):
        place = _common_zero(chosen, n)
        if place is not None and _keeps(rows, place):
            return False
    return True


def is_before(left, right):
    """Return True if the first point stands before the second one in ascending order, otherwise False."""
    for a, b in zip(left, right):
        if a != b:
            return is_less(a, b)
    return False


def _insert(points, point):
    """Put a point into an ascending list of points, unless it stands there."""
    low = 0
    high = len(points)
    while low < high:
        middle = (low + high) // 2
        if is_before(points[middle], point):
            low = middle + 1
        else:
            high = middle
    if low == len(points) or points[low] != point:
        points.insert(low, point)


def _whole(numbers):
    """Return the integers that are the numbers times one number above 0."""
    scale = 1
    for number in numbers:
        scale = lcm(scale, number.bottom)
    return [number.top * (scale // number.bottom) for number in numbers]


def _rows_of(region):
    return [_whole([*coefficients, constant]) for coefficients, constant in region]


def _point_of(place):
    return [Ratio(top, place[-1]) for top in place[:-1]]


def _keeps(rows, place):
    """Return True if all rows have values of at least 0 at the place, otherwise False."""
    for row in rows:
        if sum([a * b for a, b in zip(row, place)]) < 0:
            return False
    return True


def _common_zero(rows, n):
    """Return the place of the only point in n variables at which all rows are 0, or None if there is not just one."""
    left = list(rows)
    bottom = 1
    for column in range(n):
        left = _with_pivot(left, column)
        if left is None:
            return None
        pivot = left[column]
        left = [row if k == column else _cleared(row, pivot, column, bottom) for k, row in enumerate(left)]
        bottom = pivot[column]
    if any([row[n] != 0 for row in left[n:]]):
        return None
    # Now the row k says: bottom times the unknown k, plus the last entry, is 0. A place ends with a number above 0.
    if bottom < 0:
        return [row[n] for row in left[:n]] + [-bottom]
    return [-row[n] for row in left[:n]] + [bottom]


def _with_pivot(rows, column):
    """Return the rows with one that is not 0 in the column moved to the position `column`; None if there is none."""
    for k in range(column, len(rows)):
        if rows[k][column] != 0:
            return rows[:column] + [rows[k]] + rows[column:k] + rows[k + 1:]
    return None


def _cleared(row, pivot, column, divisor):
    """Return the row with the entry of the column made 0 by the pivot row.

    The divisor is the pivot of the column before, or 1. It divides all entries without a remainder, as each of them is
    then a determinant of entries of the first rows (Bareiss); so the integers stay short.
    """
    head = pivot[column]
    factor = row[column]
    return [(head * a - factor * b) // divisor for a, b in zip(row, pivot)]
