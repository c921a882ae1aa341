"""Phases of a machine: it rests, or goes through a stretch of a move in one direction; and what a stop makes of them.

Times are told by their indices in a table of bounds. A limit (i, j, c) says that the time i less the time j is at most
c; a variable (i, j, c) is the time i less the time j, and c.
"""

from traproom.moves import length, pieces, way
from traproom.ratios import Ratio, is_less, quotient


class Phase:
    """What a machine does while the limits hold: it is at p + v * x + (a / 2) * x * x, x being the variable.

    The speed is `fastest` where it is the greatest, and nowhere of the other sign. If the machine rests, there is no
    variable (None), and v, a and `fastest` are 0.
    """

    def __init__(self, limits, variable, p, v, a, fastest):
        self.limits = limits
        self.variable = variable
        self.p = p
        self.v = v
        self.a = a
        self.fastest = fastest


class Part:
    """Where a machine is in a phase: at the sum of the products of `terms` and 1, x, r, x * x, x * r and r * r.

    x is the variable of the phase (None if it has none), r is the time since a stop. This holds where the sum of the
    products of `condition` and 1, x and r is at least 0, or everywhere if `condition` is None. If `is_braking`, the
    place depends on r; otherwise the condition holds for all r that are at least `rest`, whatever x is.
    """

    def __init__(self, variable, terms, condition, is_braking, rest):
        self.variable = variable
        self.terms = terms
        self.condition = condition
        self.is_braking = is_braking
        self.rest = rest


def phases(machine, index, lag):
    """Return all phases in which a machine can be `lag` later than the time with this index."""
    p, _, acts = machine
    found = []
    ended = []
    for cue, move in acts:
        found.append(_resting([*ended, (index, cue, -lag)], p))
        for start, end, there, v, a in stretches(move):
            limits = [(index, cue, end - lag), (cue, index, lag - start)]
            if v == Ratio(0) and a == Ratio(0):
                found.append(_resting(limits, p + there))
            else:
                fastest = _fastest(v, a, end - start)
                found.append(Phase(limits, (index, cue, lag - start), p + there, v, a, fastest))
        p = p + way(move)
        ended = [(cue, index, lag - length(move))]
    found.append(_resting(ended, p))
    return found


def parts(phase, brake):
    """Return the parts of a phase of a machine that is then stopped by a brake; or that is not, if this is None."""
    zero, half = Ratio(0), Ratio(1, 2)
    p, v, a = phase.p, phase.v, phase.a
    if brake is None or phase.variable is None:
        return [Part(phase.variable, [p, v, zero, half * a, zero, zero], None, False, zero)]
    against = brake if is_less(zero, phase.fastest) else -brake
    # The machine comes to rest when r is the speed over `against`, which is by_v + by_a * x.
    by_v, by_a = quotient(v, against), quotient(a, against)
    slowing = [p, v, v, half * a, a, -half * against]
    at_rest = [p + half * v * by_v, v + a * by_v, zero, half * (a + a * by_a), zero, zero]
    return [
        Part(phase.variable, slowing, (by_v, by_a, Ratio(-1)), True, zero),
        Part(phase.variable, at_rest, (-by_v, -by_a, Ratio(1)), False, quotient(phase.fastest, against)),
    ]


def stretches(move):
    """Return the pieces of a move, each one within which the speed changes its sign cut where it is 0."""
    found = []
    for start, end, p, v, a in pieces(move):
        if is_less(v * (v + a * (end - start)), Ratio(0)):
            since = quotient(-v, a)
            found.append((start, start + since, p, v, a))
            found.append((start + since, end, p + Ratio(1, 2) * v * since, Ratio(0), a))
        else:
            found.append((start, end, p, v, a))
    return found


def _resting(limits, p):
    return Phase(limits, None, p, Ratio(0), Ratio(0), Ratio(0))


def _fastest(v, a, duration):
    """Return the speed at the begin or at the end, whichever is greater in size; they are not of opposite signs."""
    last = v + a * duration
    return last if is_less(Ratio(0), a * last) else v
