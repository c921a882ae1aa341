"""What several tests need: short ways to write numbers, and slow but plain ways to find answers."""

from fractions import Fraction
from itertools import combinations, permutations

from traproom.ratios import Ratio


def ratio(value):
    """The Ratio of an integer or of a Fraction."""
    exact = Fraction(value)
    return Ratio(exact.numerator, exact.denominator)


def ratios(values):
    return [ratio(value) for value in values]


def fraction(number):
    return Fraction(number.top, number.bottom)


def fractions(numbers):
    return [fraction(number) for number in numbers]


def form(*values):
    """The form with these coefficients, and the last value as its constant."""
    return (tuple(ratios(values[:-1])), ratio(values[-1]))


def region(*rows):
    return tuple(form(*row) for row in rows)


def box(n, low=0, high=1):
    """The forms of the points whose n coordinates are from low to high."""
    rows = []
    for k in range(n):
        unit = [1 if j == k else 0 for j in range(n)]
        rows.append([*unit, -low])
        rows.append([*[-x for x in unit], high])
    return region(*rows)


def plain(points):
    """Points as lists of Fractions, which can be compared and shown."""
    return [fractions(point) for point in points]


def determinant(rows):
    """The sum over all permutations (Leibniz)."""
    total = Fraction(0)
    for order in permutations(range(len(rows))):
        product = Fraction(1)
        for k, at in enumerate(order):
            product *= rows[k][at]
            product *= (-1) ** sum(order[j] > at for j in range(k))
        total += product
    return total


def form_value(one, point):
    coefficients, constant = one
    return sum((fraction(a) * x for a, x in zip(coefficients, point)), fraction(constant))


def slow_vertices(forms, n):
    """The vertices by Cramer's rule, as lists of Fractions."""
    found = []
    for chosen in combinations(forms, n):
        rows = [fractions(coefficients) for coefficients, _ in chosen]
        below = determinant(rows)
        if below == 0:
            continue
        point = []
        for k in range(n):
            changed = [
                [*row[:k], -fraction(constant), *row[k + 1:]] for row, (_, constant) in zip(rows, chosen)
            ]
            point.append(determinant(changed) / below)
        if all(form_value(one, point) >= 0 for one in forms) and point not in found:
            found.append(point)
    return sorted(found)
