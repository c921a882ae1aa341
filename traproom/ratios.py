"""Exact fractions of integers of any length."""

from math import gcd

from traproom.errors import ByZero


class Ratio:
    """The fraction n / d in lowest terms: `top` over `bottom`, with `bottom` at least 1."""

    def __init__(self, n, d=1):
        if d == 0:
            raise ByZero("a fraction has the denominator 0")
        shared = gcd(n, d)
        if d < 0:
            shared = -shared
        self.top = n // shared
        self.bottom = d // shared

    def __add__(self, other):
        return Ratio(self.top * other.bottom + other.top * self.bottom, self.bottom * other.bottom)

    def __sub__(self, other):
        return Ratio(self.top * other.bottom - other.top * self.bottom, self.bottom * other.bottom)

    def __mul__(self, other):
        return Ratio(self.top * other.top, self.bottom * other.bottom)

    def __neg__(self):
        return Ratio(-self.top, self.bottom)

    def __eq__(self, other):
        return isinstance(other, Ratio) and self.top == other.top and self.bottom == other.bottom


def quotient(a, b):
    """Return a divided by b; raise ByZero if b is 0."""
    return Ratio(a.top * b.bottom, a.bottom * b.top)


def is_less(a, b):
    """Return True if a is less than b, otherwise False."""
    return a.top * b.bottom < b.top * a.bottom


def ratio_text(a):
    """Return the decimal text of the numerator and, if the denominator is not 1, `/` and its text."""
    text = _integer_text(a.top)
    if a.bottom == 1:
        return text
    return text + "/" + _integer_text(a.bottom)


def _integer_text(n):
    # Python's own str refuses integers of many thousand digits, so they are cut into parts that it takes.
    if n < 0:
        return "-" + _integer_text(-n)
    powers = [10 ** 64]
    while powers[-1] <= n:
        powers.append(powers[-1] * powers[-1])
    return _digits(n, powers, len(powers) - 1).lstrip("0") or "0"


def _digits(n, powers, level):
    """Return the digits of n, which is less than powers[level], with zeros in front up to the full width."""
    if level == 0:
        return str(n).zfill(64)
    high, low = divmod(n, powers[level - 1])
    return _digits(high, powers, level - 1) + _digits(low, powers, level - 1)
