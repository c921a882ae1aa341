"""Shows of machines, cues and rules; faults that strike them; and where the machines are then."""

from traproom.errors import BadFault, BadMove, BadSheet, BadShow
from traproom.kinds import is_index, is_number, is_tuple
from traproom.moves import check_move, length, position, stopped
from traproom.ratios import Ratio, is_less
from traproom.sheets import bounds, check_sheet, is_timing


def check_show(value):
    """Raise BadShow if the value, which may be any, is no show."""
    if not is_tuple(value, 3, 3):
        raise BadShow("a show is a sheet, machines and rules")
    sheet, machines, rules = value
    try:
        check_sheet(sheet)
    except BadSheet:
        raise BadShow("the first part of a show is a sheet") from None
    table = bounds(sheet)
    _check_machines(table, machines)
    if not is_tuple(rules, 1, 4):
        raise BadShow("a show has 1 to 4 rules")
    for rule in rules:
        if not _is_weigh(rule, len(machines)) and not _is_zone(rule, len(machines), table):
            raise BadShow("a rule is weigh or zone, with what belongs to it")


def check_fault(show, value):
    """Raise BadFault if the value, which may be any, is no fault for the show."""
    if value == ("none",) or value == ("stop",):
        return
    if not is_tuple(value, 3, 3) or value[0] != "seize":
        raise BadFault("a fault is none, stop, or seize with a machine and a lag")
    _, machine, lag = value
    if not is_index(machine, len(show[1])):
        raise BadFault("there is no such machine to seize")
    if not is_number(lag) or is_less(lag, Ratio(0)):
        raise BadFault("a lag is a number of at least 0")


def place(show, fault, moment, machine):
    """Return the position of a machine at the time t of a moment (times, f, t) of the fault."""
    times, f, t = moment
    told = show[1][machine]
    if fault[0] == "none":
        return _undisturbed(told, times, t)
    if fault[0] == "stop":
        return _braked(told, times, f, t)
    _, seized, lag = fault
    if machine == seized:
        return _undisturbed(told, times, f)
    return _braked(told, times, f + lag, t)


def is_kept(show, rule, fault, moment):
    """Return True if the rule with this index is kept at a moment of the fault, otherwise False."""
    told = show[2][rule]
    if told[0] == "weigh":
        _, a, u, b, w, limit = told
        weighed = u * place(show, fault, moment, a) + w * place(show, fault, moment, b)
        return not is_less(weighed, limit)
    _, a, low, high, i, j = told
    times, _, t = moment
    if is_less(t, times[i]) or is_less(times[j], t):
        return True
    at = place(show, fault, moment, a)
    return not is_less(low, at) or not is_less(at, high)


def is_moment(show, fault, moment):
    """Return True if a tuple (times, f, t) of a list and two numbers is a moment of the fault, otherwise False."""
    times, f, t = moment
    if fault[0] == "none" and f != Ratio(0):
        return False
    return is_timing(show[0], times) and not is_less(f, Ratio(0)) and not is_less(t, f)


def _check_machines(table, machines):
    """Raise BadShow if these are no machines for a sheet with this table of bounds."""
    if not is_tuple(machines, 2, 4):
        raise BadShow("a show has 2 to 4 machines")
    for machine in machines:
        if not is_tuple(machine, 3, 3) or not is_number(machine[0]) or not _is_above_zero(machine[1]):
            raise BadShow("a machine is a number, a brake and a tuple of acts")
        _check_acts(table, machine[2])
    if sum([len(move) for _, _, acts in machines for _, move in acts]) > 12:
        raise BadShow("the moves of a show have together at most 12 pairs")


def _check_acts(table, acts):
    """Raise BadShow if these are no acts of a machine."""
    if not is_tuple(acts, 0, 4):
        raise BadShow("a machine has 0 to 4 acts")
    for act in acts:
        if not is_tuple(act, 2, 2) or not _is_cue(act[0], table):
            raise BadShow("an act is the index of a cue and a move")
        try:
            check_move(act[1])
        except BadMove:
            raise BadShow("the second part of an act is a move") from None
    for (first, move), (second, _) in zip(acts, acts[1:]):
        # How much later the second cue is at least is the negative of how much earlier it can be.
        if is_less(-table[first][second], length(move)):
            raise BadShow("an act can begin before the one in front of it has ended")


def _is_weigh(rule, count):
    """Return True if the value is a rule "weigh" for so many machines, otherwise False."""
    if not is_tuple(rule, 6, 6) or rule[0] != "weigh":
        return False
    _, a, u, b, w, limit = rule
    if not is_index(a, count) or not is_index(b, count) or a == b:
        return False
    return is_number(u) and is_number(w) and is_number(limit)


def _is_zone(rule, count, table):
    """Return True if the value is a rule "zone" for so many machines and these bounds, otherwise False."""
    if not is_tuple(rule, 6, 6) or rule[0] != "zone":
        return False
    _, a, low, high, i, j = rule
    if not is_index(a, count) or not is_number(low) or not is_number(high) or not is_less(low, high):
        return False
    return _is_cue(i, table) and _is_cue(j, table) and not is_less(Ratio(0), table[i][j])


def _is_cue(value, table):
    # The last index of the table is that of the time 0, which is no cue.
    return is_index(value, len(table) - 1)


def _is_above_zero(value):
    return is_number(value) and is_less(Ratio(0), value)


def _undisturbed(machine, times, at):
    """Return the position of a machine at a time, without a fault."""
    base, _, acts = machine
    total = base
    for cue, move in acts:
        total = total + position(move, at - times[cue])
    return total


def _braked(machine, times, at, t):
    """Return the position at the time t of a machine that is stopped by its brake at the time `at`.

    A move that has ended, or that begins at that time or later, has the speed 0 then, so it stays where it is.
    """
    base, brake, acts = machine
    total = base
    for cue, move in acts:
        total = total + stopped(move, brake, at - times[cue], t - times[cue])
    return total
