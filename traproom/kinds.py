"""Of what kind a value is that may be made of anything: a number, an index, a tuple of some length."""

from traproom.ratios import Ratio


def is_number(value):
    """Return True if the value is a Ratio, otherwise False."""
    return isinstance(value, Ratio)


def is_index(value, count, first=0):
    """Return True if the value is an integer, which True and False are not, from `first` to count - 1."""
    return isinstance(value, int) and not isinstance(value, bool) and first <= value < count


def is_tuple(value, fewest, most):
    """Return True if the value is a tuple of `fewest` to `most` entries, otherwise False."""
    return isinstance(value, tuple) and fewest <= len(value) <= most
