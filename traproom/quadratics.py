"""Quadratics on bounded regions: their values, the least one, and evidence that they are nowhere less than a number.

Rows and places are made of integers, as in traproom/regions.py. A face has the indices of its forms, and directions:
lists of n integers along which these forms do not change, independent ones, as many as there are.
"""

from traproom.kinds import is_index, is_tuple
from traproom.ratios import is_less
from traproom.regions import _common_zero, _keeps, _point_of, _rows_of, _whole, is_before


def value(quadratic, point):
    """Return the value of a quadratic at a point."""
    squares, (coefficients, total) = quadratic
    for row, coefficient, x in zip(squares, coefficients, point):
        slope = coefficient
        for factor, y in zip(row, point):
            slope = slope + factor * y
        total = total + slope * x
    return total


def least(quadratic, region, n):
    """Return the least value on a bounded region and the first point of point [7] that has it; None if it is empty."""
    found = None
    for point in _points(region, _faces(quadratic, region, n)):
        here = value(quadratic, point)
        if found is None or is_less(here, found[0]) or (here == found[0] and is_before(point, found[1])):
            found = (here, point)
    return found


def evidence(quadratic, region, n):
    """Return the faces of point [8], each with its word, in order."""
    return [(indices, _word(place)) for indices, place in _faces(quadratic, region, n)]


def holds(quadratic, region, n, v, faces):
    """Return True if `faces`, which may be any value, is evidence that the quadratic is at least v, otherwise False."""
    told = _faces(quadratic, region, n)
    if not isinstance(faces, list) or len(faces) != len(told):
        return False
    if not all([_is_face(face, indices, _word(place)) for face, (indices, place) in zip(faces, told)]):
        return False
    return not any([is_less(value(quadratic, point), v) for point in _points(region, told)])


def _is_face(face, indices, word):
    """Return True if a value is just the pair of these indices and this word, otherwise False."""
    if not is_tuple(face, 2, 2) or not is_tuple(face[0], len(indices), len(indices)):
        return False
    # An index True would be equal to 1, so equality alone does not do.
    return all([is_index(index, same + 1, same) for index, same in zip(face[0], indices)]) and face[1] == word


def _word(place):
    return "flat" if place is None else "point"


def _points(region, faces):
    """Return the points of the faces that have just one, as far as they are points of the region."""
    rows = _rows_of(region)
    return [_point_of(place) for _, place in faces if place is not None and _keeps(rows, place)]


def _faces(quadratic, region, n):
    """Return the pairs of the indices of a face and the place of its only point, or None, in order."""
    rows = _rows_of(region)
    slopes = _slopes(quadratic, n)
    found = []
    for indices, directions in _independent(rows, n):
        level = [_along(slopes, direction) for direction in directions]
        found.append((indices, _common_zero([rows[k] for k in indices] + level, n)))
    return found


def _slopes(quadratic, n):
    """Return a row for each variable: how the quadratic changes with it, all times the same number above 0."""
    squares, (coefficients, _) = quadratic
    numbers = []
    for i in range(n):
        numbers = numbers + [squares[i][j] + squares[j][i] for j in range(n)] + [coefficients[i]]
    flat = _whole(numbers)
    return [flat[i * (n + 1):(i + 1) * (n + 1)] for i in range(n)]


def _along(slopes, direction):
    """Return the row that tells how the quadratic changes along a direction."""
    total = [0] * (len(direction) + 1)
    for slope, step in zip(slopes, direction):
        total = [a + step * b for a, b in zip(total, slope)]
    return total


def _independent(rows, n):
    """Return the pairs of an ascending tuple of at most n independent rows and its directions, in order."""
    longest = [((), [[int(i == j) for j in range(n)] for i in range(n)])]
    found = list(longest)
    for _ in range(n):
        longest = _longer(longest, rows)
        found = found + longest
    return found


def _longer(faces, rows):
    """Return the faces with one row more behind those that they have, as far as it is independent of them."""
    found = []
    for indices, directions in faces:
        for k in range(indices[-1] + 1 if indices else 0, len(rows)):
            fewer = _with_row(directions, rows[k])
            if fewer is not None:
                found.append(((*indices, k), fewer))
    return found


def _with_row(directions, row):
    """Return the directions, one less, along which this row does not change either; None if it changes along none."""
    changes = [sum([a * b for a, b in zip(direction, row)]) for direction in directions]
    for k, change in enumerate(changes):
        if change != 0:
            pivot = directions[k]
            pairs = [(directions[j], changes[j]) for j in range(len(directions)) if j != k]
            return [[change * a - other * b for a, b in zip(one, pivot)] for one, other in pairs]
    return None
