"""Shows that several tests use, and moments drawn from all that there are."""

from fractions import Fraction

from tests.helpers import (
    fraction, machine, move, plain_move, ratio, sample_show, seize, sheet, slow_place, timing_of, weigh, zone,
)
from traproom.claims import below
from traproom.quadratics import least
from traproom.ratios import Ratio

HALF = Fraction(1, 2)
TINY = Fraction(1, 10 ** 30)
NONE = ("none",)
STOP = ("stop",)

# Up to the speed 2 in 2, and down again: 4 long, the way is 4.
UP = move((2, 1), (2, -1))
# The same the other way.
BACK = move((2, -1), (2, 1))
# Out to 2 and back to 0, in 4; it turns round within the second stretch.
OUT = move((1, 2), (2, -2), (1, 2))
# Out by 1, a rest of 1, and on by 2 with a stretch of the same speed; 6 long.
PAUSE = move((1, 1), (1, -1), (1, 0), (1, 1), (1, 0), (1, -1))


def around(cues, *machines, rules=None):
    """The show with these cues and machines, and rules that ask for all kinds of things."""
    if rules is None:
        last = len(machines) - 1
        rules = (
            weigh(0, -1, 1, 1, 0),
            weigh(last, Fraction(2, 3), 0, Fraction(-5, 7), -1),
            zone(0, 1, 3, 0, len(cues) - 1) if len(cues) > 1 else zone(0, 1, 3, 0, 0),
            zone(1, Fraction(-3, 2), HALF, 0, 0),
        )
    return (cues, machines, rules)


# What is told of times, machines and rules, by a name of the show.
SHOWS = {
    "by the same cue": around(
        sheet((-1, 0, 3), (0, 4, 6)), machine(0, 1, (0, UP)), machine(2, HALF, (0, OUT))),
    "by a cue and the one that follows it": around(
        sheet((-1, 1, 2), (0, 1, 5)), machine(0, 2, (0, UP)), machine(1, HALF, (1, UP))),
    "by sisters": around(
        sheet((-1, 0, 1), (0, 1, 3), (0, 2, 5)), machine(0, 1, (1, UP)), machine(3, 3, (2, BACK)),
        rules=(weigh(0, -1, 1, 1, 0), weigh(0, 2, 1, -1, 0), zone(0, 1, 2, 0, 1), zone(1, 1, 2, 0, 2))),
    "by cues that share no way": around(
        sheet((-1, 0, 2), (-1, 1, 4)), machine(0, 1, (0, PAUSE)), machine(1, 2, (1, OUT)),
        rules=(weigh(0, -1, 1, 1, 0), weigh(1, 1, 0, 1, 0), zone(0, 1, 2, 0, 0), zone(1, 2, 3, 1, 1))),
    "a machine that rests": around(sheet((-1, 1, 2)), machine(0, HALF, (0, OUT)), machine(1, 1)),
    "two machines that rest": around(sheet((-1, 1, 2), (0, 0, 9)), machine(0, HALF), machine(1, 1), machine(7, 9)),
    "acts that end just where others begin": around(
        sheet((-1, 0, 1), (0, 4, 4), (1, 4, 4)), machine(0, 1, (0, UP), (1, BACK), (2, UP)),
        machine(5, Fraction(2, 3), (1, BACK))),
    "a chain with a cue that nothing follows": around(
        sheet((-1, 0, 1), (0, 1, 2), (1, 2, 4), (1, 0, 3), (3, 4, 5)), machine(0, 3, (0, UP), (4, OUT)),
        machine(4, 1, (2, PAUSE)), machine(6, 1, (3, move((2, 0))))),
}


def faults_of(show):
    """All kinds of faults, for this show."""
    found = [NONE, STOP]
    for k in range(len(show[1])):
        found.append(seize(k, (0, 1, Fraction(7, 3), HALF)[k]))
    return found


def asked(show, source=None, faults=1):
    """All pairs of a rule and a fault; with a source just some of the faults for each rule."""
    found = []
    for rule in range(len(show[2])):
        for fault in faults_of(show) if source is None else source.sample(faults_of(show), faults):
            found.append((rule, fault))
    return found


def lag_of(fault):
    return fraction(fault[2]) if fault[0] == "seize" else Fraction(0)


def worth(show, rule, fault, times, f, t):
    """What a moment is worth: the weighed sum less what is asked for, or the position."""
    told = show[2][rule]
    if told[0] == "zone":
        return slow_place(show, fault, times, f, t, told[1])
    _, a, u, b, w, limit = told
    first, second = (slow_place(show, fault, times, f, t, which) for which in (a, b))
    return fraction(u) * first + fraction(w) * second - fraction(limit)


def turns_of(show, times):
    """The time 0, the times of the cues, and those at which a stretch begins or ends, or a machine turns round."""
    found = [Fraction(0), *times]
    for _, _, acts in show[1]:
        for cue, one in acts:
            now, v = times[cue], Fraction(0)
            for duration, a in plain_move(one):
                if v * (v + a * duration) < 0:
                    found.append(now - v / a)
                now, v = now + duration, v + a * duration
                found.append(now)
    return found


def drawn(source, show, rule, fault, count):
    """Times, f and t of so many moments, many of them at ends of something; for a zone t is within its times."""
    told, lag, found = show[2][rule], lag_of(fault), []
    while len(found) < count:
        times = timing_of(show[0], [source.choice((0, 1, HALF, Fraction(source.randint(0, 9), 9))) for _ in show[0]])
        turns = turns_of(show, times)
        shifts = (0, 0, 0, HALF, -HALF, Fraction(source.randint(-9, 9), 7), source.randint(0, 60))
        f = max(Fraction(0), source.choice(turns) + source.choice((0, 0, -lag)) + source.choice(shifts))
        f = Fraction(0) if fault == NONE else f
        t = max(f, source.choice((f, f + lag, *turns)) + source.choice(shifts))
        if told[0] == "zone":
            first, last = times[told[4]], times[told[5]]
            t = source.choice((first, last, (first + last) / 2, min(max(t, first), last)))
            f = min(f, source.choice((t, max(Fraction(0), t - lag), t / 2)))
        found.append((times, f, t))
    return found


def span(case):
    """The least and the greatest value of a case, as Fractions."""
    n, region, quadratic = case
    low, high = least(quadratic, region, n), least(below(quadratic, Ratio(0)), region, n)
    return fraction(low[0]), -fraction(high[0])


def with_rule(show, rule):
    """The show with just this rule."""
    return (show[0], show[1], (rule,))


def sampled(source, count):
    """So many shows that have at least one act."""
    found = []
    while len(found) < count:
        show = sample_show(source)
        if any(acts for _, _, acts in show[1]):
            found.append(show)
    return found


def raised(rule, more):
    """The rule "weigh" that asks for so much more."""
    return (*rule[:5], rule[5] + ratio(more))
