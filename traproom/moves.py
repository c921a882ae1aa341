"""Moves: how a machine goes along its track from a cue on, and how a brake stops it."""

from traproom.errors import BadMove
from traproom.kinds import is_number, is_tuple
from traproom.ratios import Ratio, is_less, quotient


def check_move(value):
    """Raise BadMove if the value, which may be any, is no move."""
    if not is_tuple(value, 1, 6):
        raise BadMove("a move is a tuple of 1 to 6 pairs")
    if not all([_is_stretch(pair) for pair in value]):
        raise BadMove("each pair of a move is a duration greater than 0 and an acceleration")
    if _speed_at_end(value) != Ratio(0):
        raise BadMove("the last speed of a move is 0")


def pieces(move):
    """Return the list of the pieces (from, to, p, v, a) of a move."""
    found = []
    start = p = v = Ratio(0)
    for duration, a in move:
        end = start + duration
        found.append((start, end, p, v, a))
        start, p, v = end, _reached(p, v, a, duration), v + a * duration
    return found


def length(move):
    """Return the sum of the durations of a move."""
    total = Ratio(0)
    for duration, _ in move:
        total = total + duration
    return total


def way(move):
    """Return the position at the end of a move."""
    start, end, p, v, a = pieces(move)[-1]
    return _reached(p, v, a, end - start)


def position(move, time):
    """Return the position at any time since the begin of a move, also before 0 and beyond its length."""
    if is_less(time, Ratio(0)):
        return Ratio(0)
    for start, end, p, v, a in pieces(move):
        if not is_less(end, time):
            return _reached(p, v, a, time - start)
    return way(move)


def speed(move, time):
    """Return the speed at any time since the begin of a move, also before 0 and beyond its length."""
    if is_less(time, Ratio(0)):
        return Ratio(0)
    for start, end, _, v, a in pieces(move):
        if not is_less(end, time):
            return v + a * (time - start)
    return Ratio(0)


def stopped(move, brake, at, time):
    """Return the position at a time of the move that a brake stops at the time `at`."""
    if not is_less(at, time):
        return position(move, time)
    v = speed(move, at)
    rest = quotient(_size(v), brake)
    since = time - at
    against = brake if is_less(v, Ratio(0)) else -brake
    return _reached(position(move, at), v, against, since if is_less(since, rest) else rest)


def greatest_speed(move):
    """Return the greatest absolute value of the speed, which stands at an end of a stretch."""
    greatest = Ratio(0)
    for _, _, _, v, _ in pieces(move):
        if is_less(greatest, _size(v)):
            greatest = _size(v)
    return greatest


def _is_stretch(pair):
    return is_tuple(pair, 2, 2) and is_number(pair[0]) and is_number(pair[1]) and is_less(Ratio(0), pair[0])


def _speed_at_end(stretches):
    total = Ratio(0)
    for duration, a in stretches:
        total = total + a * duration
    return total


def _reached(p, v, a, s):
    """Return the position at the time s after one with the position p and the speed v, with the acceleration a."""
    return p + (v + Ratio(1, 2) * a * s) * s


def _size(number):
    return -number if is_less(number, Ratio(0)) else number
