"""Verdicts: whether shows are safe, a moment at which a rule is not kept, and evidence that there is none."""

from traproom.cases import cases, moment_of
from traproom.claims import above, below
from traproom.quadratics import evidence, least, value
from traproom.ratios import Ratio, is_less


def verdict(show, rule, fault):
    """Return None if the show is safe by the rule with the fault, otherwise a moment at which it is not kept."""
    told = show[2][rule]
    if told[0] == "weigh":
        low, index, point = _lowest(cases(show, rule, fault))
        return moment_of(show, rule, fault, index, point) if is_less(low, Ratio(0)) else None
    for index, case in enumerate(cases(show, rule, fault)):
        point = _point_between(case, told[2], told[3])
        if point is not None:
            return moment_of(show, rule, fault, index, point)
    return None


def least_value(show, rule, fault):
    """Return the least value of all moments of a rule "weigh" with the fault."""
    low, _, _ = _lowest(cases(show, rule, fault))
    return low


def is_sound(show, faults):
    """Return True if the show is safe by each of its rules with each of the faults, otherwise False."""
    for fault in faults:
        for rule in range(len(show[2])):
            if verdict(show, rule, fault) is not None:
                return False
    return True


def evidence_of(show, rule, fault):
    """Return evidence that the show is safe by the rule with the fault, or None if it is not safe."""
    found = []
    for case in cases(show, rule, fault):
        entry = _entry(show[2][rule], case)
        if entry is None:
            return None
        found.append(entry)
    return found


def _lowest(found):
    """Return the least value of some cases, the index of the first case that has it, and a point where it has it."""
    lowest = None
    for index, (n, region, quadratic) in enumerate(found):
        low, point = least(quadratic, region, n)
        if lowest is None or is_less(low, lowest[0]):
            lowest = (low, index, point)
    return lowest


def _point_between(case, low, high):
    """Return a point at which a case has a value greater than low and less than high, or None if there is none."""
    n, region, quadratic = case
    lowest, first = least(quadratic, region, n)
    if not is_less(lowest, high):
        return None
    turned, last = least(below(quadratic, low), region, n)
    if not is_less(turned, Ratio(0)):
        return None
    # All values from that at `first`, which is less than high, to that at `last`, which is greater than low, occur
    # between these points; so halving the way between them comes upon one that is both.
    point = first
    while True:
        here = value(quadratic, point)
        if not is_less(here, high):
            last = point
        elif not is_less(low, here):
            first = point
        else:
            return point
        point = [Ratio(1, 2) * (x + y) for x, y in zip(first, last)]


def _entry(told, case):
    """Return the entry of evidence for a case of this rule, or None if the rule is not always kept in it."""
    n, region, quadratic = case
    if told[0] == "weigh":
        return _faces(quadratic, region, n)
    _, _, low, high, _, _ = told
    for word, claim in (("below", below(quadratic, low)), ("above", above(quadratic, high))):
        faces = _faces(claim, region, n)
        if faces is not None:
            return (word, faces)
    return None


def _faces(claim, region, n):
    """Return evidence that a quadratic is at least 0, or None if it is not."""
    low, _ = least(claim, region, n)
    return None if is_less(low, Ratio(0)) else evidence(claim, region, n)
