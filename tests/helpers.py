"""What several tests need: short ways to write numbers, and slow but plain ways to find answers."""

from fractions import Fraction
from itertools import combinations, permutations, product

from traproom.ratios import Ratio


def ratio(value):
    """The Ratio of an integer or of a Fraction."""
    exact = Fraction(value)
    return Ratio(exact.numerator, exact.denominator)


def ratios(values):
    return [ratio(value) for value in values]


def fraction(number):
    return Fraction(number.top, number.bottom)


def fractions(numbers):
    return [fraction(number) for number in numbers]


def form(*values):
    """The form with these coefficients, and the last value as its constant."""
    return (tuple(ratios(values[:-1])), ratio(values[-1]))


def region(*rows):
    return tuple(form(*row) for row in rows)


def box(n, low=0, high=1):
    """The forms of the points whose n coordinates are from low to high."""
    rows = []
    for k in range(n):
        unit = [1 if j == k else 0 for j in range(n)]
        rows.append([*unit, -low])
        rows.append([*[-x for x in unit], high])
    return region(*rows)


def plain(points):
    """Points as lists of Fractions, which can be compared and shown."""
    return [fractions(point) for point in points]


def determinant(rows):
    """The sum over all permutations (Leibniz)."""
    total = Fraction(0)
    for order in permutations(range(len(rows))):
        part = Fraction(1)
        for k, at in enumerate(order):
            part *= rows[k][at]
            part *= (-1) ** sum(order[j] > at for j in range(k))
        total += part
    return total


def form_value(one, point):
    coefficients, constant = one
    return sum((fraction(a) * x for a, x in zip(coefficients, point)), fraction(constant))


def slow_vertices(forms, n):
    """The vertices by Cramer's rule, as lists of Fractions."""
    found = []
    for chosen in combinations(forms, n):
        rows = [fractions(coefficients) for coefficients, _ in chosen]
        below = determinant(rows)
        if below == 0:
            continue
        point = []
        for k in range(n):
            changed = [
                [*row[:k], -fraction(constant), *row[k + 1:]] for row, (_, constant) in zip(rows, chosen)
            ]
            point.append(determinant(changed) / below)
        if all(form_value(one, point) >= 0 for one in forms) and point not in found:
            found.append(point)
    return sorted(found)


def quadratic(squares, *row):
    """The quadratic with these squares, as a dict of pairs (i, j), and the form of this row."""
    n = len(row) - 1
    table = tuple(tuple(ratio(squares.get((i, j), 0)) for j in range(n)) for i in range(n))
    return (table, form(*row))


def slow_value(one, point):
    """The value of a quadratic at a list of Fractions."""
    squares, rest = one
    total = form_value(rest, point)
    for i, row in enumerate(squares):
        for j, factor in enumerate(row):
            total += fraction(factor) * point[i] * point[j]
    return total


def solutions(rows, n):
    """One solution of equations (rows of n coefficients, and what they are to be), or None, and their rank."""
    rows = [[Fraction(x) for x in row] for row in rows]
    pivots = []
    for column in range(n):
        at = len(pivots)
        head = next((k for k in range(at, len(rows)) if rows[k][column] != 0), None)
        if head is None:
            continue
        rows[at], rows[head] = rows[head], rows[at]
        rows[at] = [x / rows[at][column] for x in rows[at]]
        for k, row in enumerate(rows):
            if k != at:
                rows[k] = [x - row[column] * y for x, y in zip(row, rows[at])]
        pivots.append(column)
    if any(row[n] != 0 for row in rows[len(pivots):]):
        return None, len(pivots)
    found = [Fraction(0)] * n
    for k, column in enumerate(pivots):
        found[column] = rows[k][n]
    return found, len(pivots)


def only_point(one, chosen, n):
    """The only point at which the forms are 0 and the quadratic does not change along them, or None.

    Found by multipliers: the slopes of the quadratic are a sum of multiples of the coefficients of the forms.
    """
    squares, (coefficients, _) = one
    count = len(chosen)
    rows = [[*fractions(row), *[0] * count, -fraction(constant)] for row, constant in chosen]
    for i in range(n):
        slope = [fraction(squares[i][j] + squares[j][i]) for j in range(n)]
        rows.append([*slope, *[-fraction(row[i]) for row, _ in chosen], -fraction(coefficients[i])])
    found, rank = solutions(rows, n + count)
    _, own = solutions([[*fractions(row), 0] for row, _ in chosen], n)
    # What the multipliers leave open is count - own wide; if the solutions are wider, it is the point that is open.
    if found is None or n + count - rank > count - own:
        return None
    return found[:n]


def slow_least(one, forms, n):
    """The least value and the first point of point [7], looked for with all choices of forms, dependent ones too."""
    best = None
    for count in range(n + 1):
        for chosen in combinations(forms, count):
            point = only_point(one, chosen, n)
            if point is not None and all(form_value(row, point) >= 0 for row in forms):
                here = (slow_value(one, point), point)
                best = here if best is None else min(best, here)
    return best


def slow_evidence(one, forms, n):
    found = []
    for count in range(n + 1):
        for indices in combinations(range(len(forms)), count):
            chosen = [forms[k] for k in indices]
            if solutions([[*fractions(row), 0] for row, _ in chosen], n)[1] == count:
                found.append((indices, "flat" if only_point(one, chosen, n) is None else "point"))
    return found


def move(*pairs):
    return tuple((ratio(duration), ratio(acceleration)) for duration, acceleration in pairs)


def plain_move(one):
    """A move as a list of pairs of Fractions."""
    return [fractions(pair) for pair in one]


def sample_move(source, count, size=4):
    """A move of this many pairs; the last acceleration makes the speed 0."""
    pairs, at_end = [], Fraction(0)
    for _ in range(count - 1):
        pairs.append((Fraction(source.randint(1, size), source.randint(1, 3)),
                      Fraction(source.randint(-3, 3), source.randint(1, 2))))
        at_end += pairs[-1][0] * pairs[-1][1]
    duration = Fraction(source.randint(1, size))
    return move(*pairs, (duration, -at_end / duration))


def slow_position(one, time):
    """The position as a sum over the stretches: what each acceleration has brought until this time."""
    total, start = Fraction(0), Fraction(0)
    for duration, acceleration in plain_move(one):
        since, over = max(Fraction(0), time - start), max(Fraction(0), time - start - duration)
        total += acceleration * (since * since - over * over) / 2
        start += duration
    return total


def slow_speed(one, time):
    total, start = Fraction(0), Fraction(0)
    for duration, acceleration in plain_move(one):
        total += acceleration * min(duration, max(Fraction(0), time - start))
        start += duration
    return total


def slow_stopped(one, brake, at, time):
    """The position of the move that is cut off at the time `at`, with a stretch of braking behind it."""
    if time <= at:
        return slow_position(one, time)
    pairs, left = [], max(Fraction(0), at)
    for duration, acceleration in plain_move(one):
        if left > 0:
            pairs.append((min(left, duration), acceleration))
            left -= min(left, duration)
    v = slow_speed(one, at)
    if v != 0:
        pairs.append((abs(v) / brake, -brake if v > 0 else brake))
    return slow_position(move(*pairs), time)


def wrong_kinds(value):
    """Values that cannot stand where this value of a show stands, as they are of another kind."""
    if isinstance(value, Ratio):
        return [value.top, None, True, False, "", "1", (value,), [value], (value, value), [], ()]
    if isinstance(value, int):
        return [None, True, False, str(value), Ratio(value), (value,), [value], -2, 10 ** 30, (), []]
    if isinstance(value, str):
        return ["", value.upper(), value + " ", value[:-1], "rest", None, True, False, 0, Ratio(0), (value,), [value],
                ()]
    return [list(value), [value], None, True, False, 0, 1, -1, "", "none", "a" * len(value), Ratio(0), Ratio(1), [],
            "()"]


def hurts(value):
    """The value with something of a wrong kind at one place, for each place in it."""
    yield from wrong_kinds(value)
    if isinstance(value, tuple):
        for k, part in enumerate(value):
            for other in hurts(part):
                yield (*value[:k], other, *value[k + 1:])


def sheet(*cues):
    return tuple((parent, ratio(low), ratio(high)) for parent, low, high in cues)


def table_of(rows):
    """A table of Ratios and None from rows of numbers and None."""
    return [[None if entry is None else ratio(entry) for entry in row] for row in rows]


def plain_table(table):
    return [[None if entry is None else fraction(entry) for entry in row] for row in table]


def slow_closed(rows):
    """The least sums along all ways that come nowhere twice, or None if one from a time to itself is below 0."""
    size = len(rows)
    best = [[Fraction(0) if i == j else None for j in range(size)] for i in range(size)]
    for count in range(1, size + 1):
        for stops in permutations(range(size), count):
            steps = [rows[a][b] for a, b in zip(stops, stops[1:])]
            if None in steps:
                continue
            total, back = sum(steps, Fraction(0)), rows[stops[-1]][stops[0]]
            if back is not None and total + back < 0:
                return None
            known = best[stops[0]][stops[-1]]
            best[stops[0]][stops[-1]] = total if known is None else min(known, total)
    return best


def plain_sheet(one):
    return [(parent, fraction(low), fraction(high)) for parent, low, high in one]


def timing_of(one, shares):
    """The times if the wait of each cue is its share of the way from its least to its greatest one."""
    times = []
    for (parent, low, high), share in zip(plain_sheet(one), shares):
        times.append((0 if parent == -1 else times[parent]) + low + share * (high - low))
    return times


def slow_bounds(one):
    """The greatest differences of all timings whose waits are the least or the greatest ones."""
    best = None
    for shares in product((0, 1), repeat=len(one)):
        times = [*timing_of(one, shares), Fraction(0)]
        table = [[a - b for b in times] for a in times]
        best = table if best is None else [[max(pair) for pair in zip(*rows)] for rows in zip(best, table)]
    return best


def sample_sheet(source, count):
    cues = []
    for k in range(count):
        low = Fraction(source.randint(0, 6), source.randint(1, 3))
        cues.append((source.randint(-1, k - 1), low, low + Fraction(source.randint(0, 4), source.randint(1, 3))))
    return sheet(*cues)


def machine(base, brake, *acts):
    return (ratio(base), ratio(brake), tuple(acts))


def weigh(a, u, b, w, least):
    return ("weigh", a, ratio(u), b, ratio(w), ratio(least))


def zone(a, low, high, i, j):
    return ("zone", a, ratio(low), ratio(high), i, j)


def seize(which, lag):
    return ("seize", which, ratio(lag))


def moment(times, f, t):
    return (ratios(times), ratio(f), ratio(t))


def slow_place(show, fault, times, f, t, which):
    """The position at t, by the position and the speed of the whole machine when it is stopped."""
    base, brake, acts = show[1][which]

    def place_at(time):
        return fraction(base) + sum(slow_position(one, time - times[cue]) for cue, one in acts)

    if fault[0] == "none":
        return place_at(t)
    if fault[0] == "seize" and fault[1] == which:
        return place_at(f)
    stop = f + (fraction(fault[2]) if fault[0] == "seize" else 0)
    if t <= stop:
        return place_at(t)
    v = sum(slow_speed(one, stop - times[cue]) for cue, one in acts)
    since = min(t - stop, abs(v) / fraction(brake))
    return place_at(stop) + v * since - (1 if v > 0 else -1) * fraction(brake) * since * since / 2


def sample_show(source):
    """A show with a sheet of up to 8 cues, up to 4 machines with acts at cues that are far enough from each other."""
    cues = sample_sheet(source, source.randint(2, 8))
    table = slow_bounds(cues)
    left, machines = 12, []
    for _ in range(source.randint(2, 4)):
        acts = []
        for cue in range(len(cues)):
            one = sample_move(source, source.randint(2, 3), 2)
            free = not acts or table[acts[-1][0]][cue] + sum(fraction(pair[0]) for pair in acts[-1][1]) <= 0
            if free and len(acts) < 4 and len(one) <= left and source.random() < 0.7:
                acts.append((cue, one))
                left -= len(one)
        machines.append(machine(source.randint(-3, 3), Fraction(source.randint(1, 5), source.randint(1, 3)), *acts))
    pairs = [(i, j) for i in range(len(cues)) for j in range(len(cues)) if table[i][j] <= 0]
    rules = []
    for _ in range(source.randint(1, 4)):
        a, b = source.sample(range(len(machines)), 2)
        low = source.randint(-5, 3)
        rules.append(source.choice((
            weigh(a, source.randint(-2, 2), b, source.randint(-2, 2), source.randint(-5, 5)),
            zone(a, low, low + Fraction(source.randint(1, 6), 2), *source.choice(pairs)),
        )))
    return (cues, tuple(machines), tuple(rules))
