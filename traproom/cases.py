"""The cases into which all moments of a rule with a fault fall.

Tables are those of traproom/scenes.py; limits and variables are told as in traproom/phases.py.
"""

from itertools import combinations

from traproom.phases import parts, phases
from traproom.ratios import Ratio, is_less
from traproom.regions import is_empty
from traproom.scenes import further_times, limited, scenes, table_of
from traproom.sheets import some_times, with_bound


class Case:
    """A region and a quadratic in some variables, and the table of the times that belong to points of the region."""

    def __init__(self, table, variables, region, quadratic):
        self.table = table
        self.variables = variables
        self.region = region
        self.quadratic = quadratic


def cases(show, rule, fault):
    """Return the list of the cases (n, region, quadratic) of a rule with a fault."""
    return [(len(case.variables), case.region, case.quadratic) for case in _all_cases(show, rule, fault)]


def moment_of(show, rule, fault, index, point):
    """Return a moment that belongs to a point of the region of the case with this index."""
    case = _all_cases(show, rule, fault)[index]
    table = case.table
    for (i, j, c), x in zip(case.variables, point):
        table = limited(table, [(i, j, x - c), (j, i, c - x)])
    f, t, zero = further_times(show)
    for late in (f, t):
        # There may be no greatest time, so the least one is taken.
        table = with_bound(table, late, zero, -table[zero][late])
    times = some_times(table)
    return (times[:f], times[f], times[t])


def _all_cases(show, rule, fault):
    told = show[2][rule]
    start = table_of(show[0])
    if told[0] == "weigh":
        _, a, u, b, w, limit = told
        weights, constant = [(a, u), (b, w)], -limit
    else:
        _, a, _, _, i, j = told
        weights, constant = [(a, Ratio(1))], Ratio(0)
        _, t, _ = further_times(show)
        start = limited(start, [(i, t, Ratio(0)), (t, j, Ratio(0))])
    found = []
    for scene in scenes(show, fault):
        table = limited(start, scene.limits)
        if table is not None:
            found = found + _cases_of(show, scene, table, weights, constant)
    return found


def _cases_of(show, scene, table, weights, constant):
    """Return the cases of a scene; their value is the weighed sum of the positions of machines, and a constant."""
    choices, brakes = [], []
    for index, _ in weights:
        machine = show[1][index]
        at, lag, is_stopped = scene.views[index]
        choices.append(phases(machine, at, lag))
        brakes.append(machine[1] if is_stopped else None)
    factors = [factor for _, factor in weights]
    found = []
    for narrower, together in _possible(table, choices):
        for chosen in _choices([parts(phase, brake) for phase, brake in zip(together, brakes)]):
            case = _case_of(scene, narrower, chosen, factors, constant)
            if case is not None:
                found.append(case)
    return found


def _possible(table, choices):
    """Return the pairs of a table and a list of phases, one of each list, that can be at one time."""
    found = [(table, [])]
    for options in choices:
        longer = []
        for known, chosen in found:
            for phase in options:
                narrower = limited(known, phase.limits)
                if narrower is not None:
                    longer.append((narrower, [*chosen, phase]))
        found = longer
    return found


def _choices(lists):
    """Return all lists of one entry of each list."""
    found = [[]]
    for options in lists:
        found = [[*chosen, option] for chosen in found for option in options]
    return found


def _case_of(scene, table, chosen, factors, constant):
    """Return the case in which the machines are in these parts, or None if there is no such moment."""
    variables = [part.variable for part in chosen if part.variable is not None]
    stopped = [part for part in chosen if part.condition is not None]
    conditions = []
    if stopped:
        i, j, c = scene.since
        if table[i][j] is not None or any([part.is_braking for part in stopped]):
            variables.append(scene.since)
            conditions = _conditions(chosen, len(variables))
        else:
            # Nothing depends on r, and it has no bound: let it be as great as all machines need to come to rest.
            table = limited(table, [(j, i, c - part.rest) for part in stopped])
    region = tuple(_bounding(table, variables) + conditions)
    if conditions and is_empty(region, len(variables)):
        return None
    return Case(table, variables, region, _quadratic(chosen, factors, constant, len(variables)))


def _places(chosen):
    """Return for each part the index of its variable, or, if it has none, of the next one that there may be."""
    found, k = [], 0
    for part in chosen:
        found.append(k)
        if part.variable is not None:
            k += 1
    return found


def _conditions(chosen, n):
    """Return the conditions of the parts as forms in n variables, the last of which is r."""
    found = []
    for part, k in zip(chosen, _places(chosen)):
        if part.condition is not None:
            one, x, r = part.condition
            coefficients = [Ratio(0)] * n
            coefficients[k] = x
            coefficients[-1] = r
            found.append((tuple(coefficients), one))
    return found


def _quadratic(chosen, factors, total, n):
    """Return the products of the positions in the parts and factors, and a number, as one quadratic in n variables."""
    squares = [[Ratio(0)] * n for _ in range(n)]
    slopes = [Ratio(0)] * n
    for part, factor, k in zip(chosen, factors, _places(chosen)):
        one, x, r, xx, xr, rr = [factor * term for term in part.terms]
        total = total + one
        if part.variable is not None:
            slopes[k] = slopes[k] + x
            squares[k][k] = squares[k][k] + xx
        if part.is_braking:
            slopes[-1] = slopes[-1] + r
            squares[k][-1] = squares[k][-1] + xr
            squares[-1][-1] = squares[-1][-1] + rr
    return (tuple([tuple(row) for row in squares]), (tuple(slopes), total))


def _bounding(table, variables):
    """Return the forms that are at least 0 just where the variables have values that are possible together.

    A variable is a difference of two times and a number, and so is its negative: two sides of it. A side is bounded as
    its difference is. Sides of two variables are bounded together also by the two other differences of their times.
    """
    sides = []
    for k, (i, j, c) in enumerate(variables):
        sides = sides + [(k, Ratio(1), i, j, c), (k, Ratio(-1), j, i, -c)]
    n = len(variables)
    found = [_form([side], table[side[2]][side[3]], n) for side in sides]
    for one, other in combinations(sides, 2):
        _, _, i, j, _ = one
        _, _, other_i, other_j, _ = other
        most = _sum(table[i][other_j], table[other_i][j])
        apart = _sum(table[i][j], table[other_i][other_j])
        if one[0] != other[0] and most is not None and (apart is None or is_less(most, apart)):
            found.append(_form([one, other], most, n))
    return [form for form in found if form is not None]


def _form(sides, most, n):
    """Return the form that is at least 0 where the differences of the sides are together at most `most`, or None."""
    if most is None:
        return None
    coefficients = [Ratio(0)] * n
    for k, sign, _, _, c in sides:
        coefficients[k] = -sign
        most = most + c
    return (tuple(coefficients), most)


def _sum(a, b):
    """Return the sum of two entries of a table; None stands for no bound."""
    return None if a is None or b is None else a + b
