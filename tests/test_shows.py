import copy
import random
import unittest
from fractions import Fraction

from tests.helpers import (
    fraction, hurts, machine, moment, move, ratio, sample_show, seize, sheet, slow_place, timing_of, weigh, zone,
)
from traproom.errors import BadFault, BadShow
from traproom.ratios import Ratio
from traproom.shows import check_fault, check_show, is_kept, is_moment, place

HALF = Fraction(1, 2)
TINY = Fraction(1, 10 ** 30)
NONE = ("none",)
STOP = ("stop",)

# Up to the speed 2 in 2, and down again: 4 long, the way is 4.
UP = move((2, 1), (2, -1))
# Out to 2 and back to 0, in 4.
OUT = move((1, 2), (2, -2), (1, 2))
# Down by 9 in 6, with the speed -3 at 3.
DOWN = move((3, -1), (3, 1))
CUES = sheet((-1, 0, 4), (0, 10, 12), (-1, 0, 20), (1, 1, 3))
MACHINES = (
    machine(0, 2, (0, UP), (1, OUT)),
    machine(10, HALF, (2, DOWN)),
    machine(-5, 3),
)
RULES = (
    weigh(0, -1, 1, 1, 1),
    zone(1, 3, 7, 0, 1),
    zone(0, -1, Fraction(7, 2), 3, 3),
    weigh(2, HALF, 0, 0, -7),
)
SHOW = (CUES, MACHINES, RULES)


def with_part(value, part, *way):
    """The value with one part at the end of this way of indices replaced."""
    if not way:
        return part
    k = way[0]
    return (*value[:k], with_part(value[k], part, *way[1:]), *value[k + 1:])


class CheckShowTest(unittest.TestCase):
    def check_good(self, show):
        self.assertIsNone(check_show(show))

    def check_bad(self, show):
        with self.assertRaises(BadShow):
            check_show(show)

    def check_part(self, good, part, *way):
        """The show with another part is a show, or is none."""
        (self.check_good if good else self.check_bad)(with_part(SHOW, part, *way))

    def test_shows(self):
        self.check_good(SHOW)
        self.check_good((sheet((-1, 0, 0)), (machine(0, 1), machine(0, 1)), (zone(0, 0, TINY, 0, 0),)))

    def test_sampled_shows(self):
        source = random.Random(41)
        for _ in range(60):
            self.check_good(sample_show(source))

    def test_values_of_other_kinds_at_each_place(self):
        for other in hurts(SHOW):
            self.check_bad(other)

    def test_deeply_nested_values(self):
        deep_list, deep_tuple = [], ()
        for _ in range(100000):
            deep_list, deep_tuple = [deep_list], (deep_tuple,)
        for deep in (deep_list, deep_tuple):
            self.check_bad(deep)
            for way in ((0,), (0, 1), (0, 1, 0), (1,), (1, 0), (1, 0, 0), (1, 0, 2), (1, 0, 2, 0), (1, 0, 2, 0, 1),
                        (2,), (2, 0), (2, 0, 0), (2, 0, 1), (2, 0, 5)):
                self.check_part(False, deep, *way)

    def test_a_part_more_or_less(self):
        for way, whole in (((), SHOW), ((0, 1), CUES[1]), ((1, 0), MACHINES[0]), ((1, 2), MACHINES[2]),
                           ((1, 0, 2, 0), (0, UP)), ((1, 0, 2, 0, 1, 0), UP[0]), ((2, 0), RULES[0]),
                           ((2, 1), RULES[1])):
            for part in (whole[:-1], whole[1:], (), (*whole, whole[-1]), (*whole, ratio(1)), (*whole, None),
                         (whole[0], *whole), (whole,)):
                self.check_part(False, part, *way)

    def test_bad_sheets(self):
        for cues in ((), sheet((0, 0, 1)), sheet((-1, 2, 1)), sheet((-1, -1, 1)), sheet(*[(-1, 0, 1)] * 9)):
            self.check_part(False, cues, 0)
        self.check_part(False, (-1, ratio(5), ratio(4)), 0, 2)
        self.check_part(False, (3, ratio(1), ratio(3)), 0, 3)

    def test_bad_moves(self):
        for one in ((), move((1, 1)), move((0, 0)), move((-1, 0)), move(*[(1, 0)] * 7), move((2, 1), (2, -2))):
            self.check_part(False, one, 1, 0, 2, 0, 1)
            self.check_part(False, one, 1, 0, 2, 1, 1)
            self.check_part(False, one, 1, 1, 2, 0, 1)

    def test_machines(self):
        for count in range(7):
            machines = tuple(machine(k, 1) for k in range(count))
            one = (CUES, machines, (zone(0, 1, 2, 0, 1),))
            (self.check_good if 2 <= count <= 4 else self.check_bad)(one)

    def test_brakes(self):
        for brake in (TINY, 1, 10 ** 9):
            self.check_part(True, ratio(brake), 1, 1, 1)
        for brake in (0, -TINY, -1):
            for k in range(3):
                self.check_part(False, ratio(brake), 1, k, 1)

    def test_bases(self):
        for base in (-10 ** 9, 0, TINY):
            self.check_part(True, ratio(base), 1, 1, 0)

    def test_acts(self):
        cues = sheet((-1, 0, 1), *[(k, 1, 2) for k in range(7)])
        short = move((1, 0))
        for count in range(7):
            machines = (machine(0, 1, *[(k, short) for k in range(count)]), machine(0, 1))
            for both in (machines, machines[::-1]):
                show = (cues, both, (weigh(0, 1, 1, 1, 0),))
                (self.check_good if count <= 4 else self.check_bad)(show)

    def test_twelve_pairs_in_all(self):
        cues = sheet((-1, 0, 1), (0, 6, 7), (1, 6, 7), (2, 6, 7))
        for counts in ((6, 6), (6, 6, 0), (3, 3, 3, 3), (6, 1, 5), (1, 6, 1, 4)):
            machines = [machine(0, 1, (0, move(*[(1, 0)] * count))) if count else machine(0, 1) for count in counts]
            self.check_good((cues, tuple(machines), (weigh(0, 1, 1, 1, 0),)))
            for k, count in enumerate(counts):
                if count < 6:
                    more = machine(0, 1, (0, move(*[(1, 0)] * (count + 1))))
                    self.check_bad((cues, (*machines[:k], more, *machines[k + 1:]), (weigh(0, 1, 1, 1, 0),)))
        three = move(*[(1, 0)] * 3)
        acts = [(k, three) for k in range(4)]
        self.check_good((cues, (machine(0, 1, *acts), machine(0, 1)), (weigh(0, 1, 1, 1, 0),)))
        for k in range(4):
            more = [*acts[:k], (k, move(*[(1, 0)] * 4)), *acts[k + 1:]]
            self.check_bad((cues, (machine(0, 1, *more), machine(0, 1)), (weigh(0, 1, 1, 1, 0),)))
        self.check_bad((cues, (machine(0, 1, *acts), machine(0, 1, (0, move((1, 0))))), (weigh(0, 1, 1, 1, 0),)))

    def test_the_cues_of_acts(self):
        for cue in range(4):
            self.check_part(True, cue, 1, 1, 2, 0, 0)
        for cue in (-1, -4, 4, 5, True, False, Ratio(1), None, "1"):
            self.check_part(False, cue, 1, 1, 2, 0, 0)
            self.check_part(False, cue, 1, 0, 2, 0, 0)
            self.check_part(False, cue, 1, 0, 2, 1, 0)

    def check_two_acts(self, good, cues, first, second):
        show = (cues, (machine(0, 1, (first, UP), (second, OUT)), machine(0, 1)), (zone(0, 0, 1, 0, 0),))
        (self.check_good if good else self.check_bad)(show)
        show = (cues, (machine(0, 1), machine(0, 1, (first, UP), (second, OUT))), (zone(0, 0, 1, 0, 0),))
        (self.check_good if good else self.check_bad)(show)

    def test_neighboring_acts_of_a_parent_and_its_child(self):
        for low in (4, 5, 4 + TINY):
            self.check_two_acts(True, sheet((-1, 0, 9), (0, low, 9)), 0, 1)
        for low in (4 - TINY, 3, 0):
            self.check_two_acts(False, sheet((-1, 0, 9), (0, low, 9)), 0, 1)
        self.check_two_acts(False, sheet((-1, 0, 9), (0, 5, 9)), 1, 0)

    def test_neighboring_acts_of_cues_that_share_a_parent(self):
        for first, second, good in (((0, 1), (5, 6), True), ((0, 1), (5 - TINY, 6), False),
                                    ((0, 1 + TINY), (5, 6), False)):
            self.check_two_acts(good, sheet((-1, *first), (-1, *second)), 0, 1)
            self.check_two_acts(good, sheet((-1, *second), (-1, *first)), 1, 0)
            self.check_two_acts(False, sheet((-1, *second), (-1, *first)), 0, 1)
            self.check_two_acts(good, sheet((-1, 0, 50), (0, *first), (0, *second)), 1, 2)

    def test_neighboring_acts_with_other_cues_between_them(self):
        self.check_two_acts(True, sheet((-1, 0, 9), (0, 1, 9), (1, 3, 9)), 0, 2)
        self.check_two_acts(False, sheet((-1, 0, 9), (0, 1, 9), (1, 3 - TINY, 9)), 0, 2)

    def test_neighboring_acts_with_the_same_cue(self):
        self.check_two_acts(False, sheet((-1, 0, 9), (0, 5, 9)), 0, 0)
        self.check_two_acts(False, sheet((-1, 0, 9), (0, 5, 9)), 1, 1)

    def test_the_second_and_the_third_act_are_neighbors_too(self):
        for low, good in ((4, True), (4 - TINY, False)):
            cues = sheet((-1, 0, 9), (0, 4, 9), (1, low, 9))
            acts = [(0, UP), (1, OUT), (2, UP)]
            (self.check_good if good else self.check_bad)((cues, (machine(0, 1, *acts), machine(0, 1)), RULES[:1]))

    def test_acts_of_two_machines_are_no_neighbors(self):
        self.check_good((CUES, (machine(0, 1, (0, UP)), machine(0, 1, (0, UP)), machine(0, 1, (0, OUT))), RULES[:1]))

    def test_rules(self):
        for count in range(7):
            rules = (RULES * 2)[:count]
            self.check_part(1 <= count <= 4, rules, 2)

    def test_rules_with_other_words(self):
        for word in ("", "none", "stop", "seize", "weighs", "Zone", "zones"):
            for k in range(4):
                self.check_part(False, word, 2, k, 0)
        self.check_part(False, "zone", 2, 0, 0)
        self.check_part(False, "weigh", 2, 1, 0)

    def test_weighing(self):
        for a, b, good in ((0, 1, True), (1, 0, True), (2, 0, True), (0, 0, False), (2, 2, False), (0, 3, False),
                           (3, 0, False), (-1, 0, False), (0, -1, False), (True, 0, False), (0, True, False),
                           (False, 1, False), (Ratio(0), 1, False)):
            self.check_part(good, weigh(a, 1, b, -1, 0), 2, 0)
        for u, w, limit in ((0, 0, 0), (-3, HALF, -10 ** 9), (TINY, 10 ** 9, 5)):
            self.check_part(True, weigh(0, u, 1, w, limit), 2, 3)

    def test_zones(self):
        for a in range(3):
            self.check_part(True, zone(a, 0, 1, 0, 1), 2, 1)
        for a in (-1, 3, True, False, None, Ratio(1)):
            self.check_part(False, zone(a, 0, 1, 0, 1), 2, 1)
        for low, high, good in ((0, 1, True), (-5, -5 + TINY, True), (0, 0, False), (1, 0, False), (TINY, 0, False)):
            self.check_part(good, zone(0, low, high, 0, 1), 2, 1)

    def test_the_cues_of_zones(self):
        # The third cue may be called before or behind each other one; the others follow one another.
        follows = {(0, 0), (1, 1), (2, 2), (3, 3), (0, 1), (0, 3), (1, 3)}
        for i in range(-2, 6):
            for j in range(-2, 6):
                self.check_part((i, j) in follows, zone(0, 0, 1, i, j), 2, 2)
        for other in (True, False, None, "0", Ratio(0), (0,)):
            self.check_part(False, zone(0, 0, 1, other, 3), 2, 2)
            self.check_part(False, zone(0, 0, 1, 0, other), 2, 2)

    def test_the_second_cue_of_a_zone_may_be_at_the_same_time(self):
        for first, second, good in (((0, 1), (1, 5), True), ((1, 1), (1, 1), True), ((0, 1), (1 - TINY, 5), False)):
            cues = sheet((-1, *first), (-1, *second))
            show = (cues, (machine(0, 1), machine(0, 1)), (zone(0, 0, 1, 0, 1),))
            (self.check_good if good else self.check_bad)(show)


class CheckFaultTest(unittest.TestCase):
    def check_bad(self, fault):
        with self.assertRaises(BadFault):
            check_fault(SHOW, fault)

    def test_faults(self):
        for fault in (NONE, STOP, seize(0, 0), seize(1, TINY), seize(2, 10 ** 9)):
            self.assertIsNone(check_fault(SHOW, fault))

    def test_values_of_other_kinds_at_each_place(self):
        for fault in (NONE, STOP, seize(0, 0), seize(1, 1), seize(2, HALF)):
            for other in hurts(fault):
                self.check_bad(other)

    def test_machines(self):
        for which in (3, 4, -1, -3, True, False, None, "0", Ratio(0), (0,)):
            self.check_bad(("seize", which, ratio(1)))

    def test_the_number_of_machines_is_that_of_the_show(self):
        two = (CUES, MACHINES[:2], RULES[:1])
        four = (CUES, (*MACHINES, machine(0, 1)), RULES)
        self.assertIsNone(check_fault(two, seize(1, 1)))
        self.assertIsNone(check_fault(four, seize(3, 1)))
        with self.assertRaises(BadFault):
            check_fault(two, seize(2, 1))
        with self.assertRaises(BadFault):
            check_fault(four, seize(4, 1))

    def test_lags(self):
        for lag in (-1, -TINY):
            self.check_bad(seize(0, lag))
        for lag in (0, 1, True, False, None, "1", (ratio(1),), [ratio(1)]):
            self.check_bad(("seize", 0, lag))

    def test_a_part_more_or_less(self):
        for fault in (("none", None), ("none", "none"), ("stop", 0), ("stop", ratio(0)), ("seize",), ("seize", 0),
                      ("seize", ratio(1)), ("seize", 0, ratio(1), ratio(1)), ("none", 0, ratio(1)),
                      ("stop", 0, ratio(1)), (), ("",), ("freeze",), ("seize", ratio(1), 0), (None,), ("None",), ((),),
                      (NONE,), (STOP,)):
            self.check_bad(fault)

    def test_other_values(self):
        deep_list, deep_tuple = [], ()
        for _ in range(100000):
            deep_list, deep_tuple = [deep_list], (deep_tuple,)
        for fault in (None, True, 0, "none", "stop", "seize", ["none"], ["stop"], ["seize", 0, ratio(1)], ratio(0), [],
                      "", deep_list, deep_tuple, (deep_list,), (deep_tuple,), ("seize", deep_tuple, ratio(0)),
                      ("seize", 0, deep_list), (deep_tuple, 0, ratio(0))):
            self.check_bad(fault)


class PlaceAtMomentTest(unittest.TestCase):
    def check(self, fault, times, f, t, which, expected):
        found = place(SHOW, fault, moment(times, f, t), which)
        self.assertIsInstance(found, Ratio)
        self.assertEqual(fraction(found), expected)

    def test_without_a_fault(self):
        times = [1, 12, 0, 13]
        for t, expected in ((0, 0), (1, 0), (2, HALF), (3, 2), (4, Fraction(7, 2)), (5, 4), (9, 4), (12, 4), (13, 5),
                            (14, 6), (15, 5), (16, 4), (10 ** 9, 4)):
            self.check(NONE, times, 0, t, 0, expected)
        for t, expected in ((0, 10), (1, 10 - HALF), (3, 10 - 9 * HALF), (6, 1), (7, 1), (100, 1)):
            self.check(NONE, times, 0, t, 1, expected)
        for t in (0, 5, 100):
            self.check(NONE, times, 0, t, 2, -5)

    def test_a_stop_within_a_move(self):
        # At 3 the first machine is at 2 with the speed 2, its brake is 2: it rests at 4, at 3.
        times = [1, 12, 0, 13]
        for t, expected in ((3, 2), (Fraction(7, 2), Fraction(11, 4)), (4, 3), (5, 3), (12, 3), (14, 3), (99, 3)):
            self.check(STOP, times, 3, t, 0, expected)
        # The second one is at 11/2 with the speed -3, its brake is 1/2: it rests at 9, at -7/2.
        for t, expected in ((3, 11 * HALF), (4, 11 * HALF - 3 + Fraction(1, 4)), (9, -7 * HALF), (10, -7 * HALF)):
            self.check(STOP, times, 3, t, 1, expected)
        for t in (3, 4, 99):
            self.check(STOP, times, 3, t, 2, -5)

    def test_a_stop_before_a_cue_at_it_and_behind_it(self):
        times = [4, 15, 7, 16]
        for f in (0, 1, 3, 4 - TINY, 4):
            for t in (f, f + 1, 5, 8, 15, 17, 100):
                self.check(STOP, times, f, max(f, t), 0, 0)
        for f in (0, 7 - TINY, 7):
            for t in (7, 8, 10, 100):
                self.check(STOP, times, f, t, 1, 10)
        self.check(STOP, times, 4 + TINY, 100, 0, TINY * TINY / 2 + TINY * TINY / 4)

    def test_a_stop_where_a_move_has_ended(self):
        times = [4, 15, 7, 16]
        for f in (8, 8 + TINY, 10, 15):
            for t in (15, 16, 17, 100):
                self.check(STOP, times, f, t, 0, 4)
        self.check(STOP, times, 8 - TINY, 100, 0, 4 - TINY * TINY / 2 + TINY * TINY / 4)

    def test_a_stop_where_a_machine_turns_round(self):
        times = [0, 10, 0, 11]
        for t in (12, 13, 100):
            self.check(STOP, times, 12, t, 0, 6)

    def test_a_stop_where_one_move_ends_and_the_next_one_begins(self):
        show = (sheet((-1, 0, 0), (0, 4, 4)), (machine(0, 1, (0, UP), (1, OUT)), machine(0, 1)), RULES[:1])
        for f, t, expected in ((4, 4, 4), (4, 5, 4), (4, 6, 4), (5, 5, 5), (5, 6, 5 + 2 - HALF), (5, 9, 7), (3, 99, 4)):
            found = place(show, STOP, moment([0, 4], f, t), 0)
            self.assertEqual(fraction(found), expected)

    def test_the_seized_machine_stays_where_it_is(self):
        times = [1, 12, 0, 13]
        for lag in (0, 1, 100):
            for t in (3, 4, 12, 14, 100):
                self.check(seize(0, lag), times, 3, t, 0, 2)
                self.check(seize(1, lag), times, 3, t, 1, 11 * HALF)
                self.check(seize(2, lag), times, 3, t, 2, -5)
                self.check(seize(0, lag), times, 0, t, 0, 0)
        for t in (13, 14, 100):
            self.check(seize(0, 1), times, 13, t, 0, 5)

    def test_the_others_go_on_up_to_the_end_of_the_lag(self):
        times = [1, 12, 0, 13]
        # The machine 1 seizes at 1; 2 later the first one is stopped as above.
        for t, expected in ((1, 0), (2, HALF), (3, 2), (Fraction(7, 2), Fraction(11, 4)), (4, 3), (12, 3), (99, 3)):
            self.check(seize(1, 2), times, 1, t, 0, expected)
        # They go on by cues, too: the one at 12 comes within the lag.
        for t, expected in ((3, 2), (5, 4), (12, 4), (13, 5), (14, 6), (15, 6), (99, 6)):
            self.check(seize(1, 11), times, 3, t, 0, expected)
        # But not by one just at the end of the lag, or behind it.
        for lag in (9, 8):
            for t in (12, 13, 14, 99):
                self.check(seize(1, lag), times, 3, t, 0, 4)
        self.check(seize(1, 9 + TINY), times, 3, 99, 0, 4 + TINY * TINY + TINY * TINY)

    def test_a_lag_of_0_is_a_stop_for_the_others(self):
        times = [1, 12, 0, 13]
        for f in (0, 1, 2, 3, 5, 13):
            for t in (f, f + HALF, f + 1, f + 20):
                self.check(seize(2, 0), times, f, t, 0, slow_place(SHOW, STOP, times, f, t, 0))
                self.check(seize(2, 0), times, f, t, 1, slow_place(SHOW, STOP, times, f, t, 1))

    def test_at_the_moment_of_the_fault_all_are_where_they_are(self):
        times = [1, 12, 0, 13]
        for f in (0, 1, 2, 3, Fraction(9, 2), 5, 12, 13, 14, 16, 40):
            for fault in (STOP, seize(0, 0), seize(1, 3)):
                for which in range(3):
                    self.check(fault, times, f, f, which, slow_place(SHOW, NONE, times, 0, f, which))

    def test_as_by_the_speed_of_the_whole_machine(self):
        source = random.Random(42)
        for _ in range(40):
            show = sample_show(source)
            times = timing_of(show[0], [Fraction(source.randint(0, 2), 2) for _ in show[0]])
            ends = [0, *times, *[times[cue] + sum(fraction(pair[0]) for pair in one)
                                 for _, _, acts in show[1] for cue, one in acts]]
            for _ in range(25):
                seizing = seize(source.randrange(len(show[1])), source.choice((0, 1, 2, HALF)))
                fault = source.choice((NONE, STOP, seizing))
                f = 0 if fault == NONE else max(0, source.choice(ends) + source.choice((0, 0, HALF, -HALF, 1)))
                t = max(f, source.choice((f, *ends)) + source.choice((0, HALF, 1, 2, 20)))
                for which in range(len(show[1])):
                    found = place(show, fault, moment(times, f, t), which)
                    self.assertEqual(fraction(found), slow_place(show, fault, times, f, t, which))


class IsKeptTest(unittest.TestCase):
    def check(self, rule, fault, times, f, t, expected):
        self.assertIs(is_kept(SHOW, rule, fault, moment(times, f, t)), expected)

    def check_rule(self, one, fault, times, f, t, expected):
        show = (CUES, MACHINES, (RULES[0], one))
        self.assertIs(is_kept(show, 1, fault, moment(times, f, t)), expected)

    def test_weighing(self):
        # The second machine is at 10 less what it has gone, the first one at 0, 1/2, 2, 7/2, 4.
        times = [0, 10, 2, 12]
        self.check(0, NONE, times, 0, 4, True)
        self.check(0, NONE, times, 0, 5, True)
        self.check_rule(weigh(0, -1, 1, 1, 4), NONE, times, 0, 4, True)
        self.check_rule(weigh(0, -1, 1, 1, 4 + TINY), NONE, times, 0, 4, False)
        self.check_rule(weigh(1, 1, 0, -1, 4), NONE, times, 0, 4, True)
        self.check_rule(weigh(1, 1, 0, -1, 4 + TINY), NONE, times, 0, 4, False)
        self.check_rule(weigh(1, HALF, 0, -3, -8), NONE, times, 0, 4, True)
        self.check_rule(weigh(1, HALF, 0, -3, -8 + TINY), NONE, times, 0, 4, False)
        self.check_rule(weigh(2, 2, 1, 0, -10), NONE, times, 0, 4, True)
        self.check_rule(weigh(2, 2, 1, 0, -10 + TINY), NONE, times, 0, 4, False)

    def test_weighing_with_faults(self):
        # Stopped at 5, the second machine goes on below the first one.
        times = [0, 10, 2, 12]
        self.check(0, STOP, times, 5, 5, True)
        self.check(0, STOP, times, 5, 6, False)
        self.check(0, STOP, times, 5, 11, False)
        self.check(0, seize(1, 0), times, 5, 100, True)
        self.check(0, seize(0, 0), times, 2, 100, True)
        self.check(0, seize(0, 10), times, 2, 100, False)

    def test_zones_at_both_ends_of_the_times(self):
        # From 0 to 10 the second machine may not be between 3 and 7.
        times = [0, 10, 7, 12]
        for t, expected in ((9, True), (9 + HALF, False), (10, False), (10 + TINY, True), (11, True)):
            self.check(1, NONE, times, 0, t, expected)
        # It is there at 3 and up to 9/2; the people come at 4.
        times = [4, 14, HALF, 15]
        for t, expected in ((2, True), (3, True), (4 - TINY, True), (4, False), (4 + HALF, True)):
            self.check(1, NONE, times, 0, t, expected)

    def test_zones_at_both_ends_of_the_places(self):
        times = [0, 10, 2, 12]
        # At 4 it is at 8, at 5 at 11/2, at 6 at 3.
        for low, high, t, expected in ((8, 9, 4, True), (7, 8, 4, True), (7, 9, 4, False), (8 - TINY, 9, 4, False),
                                       (7, 8 + TINY, 4, False), (3, 4, 6, True), (2, 3, 6, True), (2, 4, 6, False)):
            self.check_rule(zone(1, low, high, 0, 1), NONE, times, 0, t, expected)

    def test_zones_of_one_cue(self):
        # Just at the time of the last cue, the first machine may not be between -1 and 7/2.
        times = [0, 10, 0, 11]
        for t in (0, 10, 11 - TINY, 11, 11 + TINY):
            self.check(2, NONE, times, 0, t, True)
        for t, expected in ((10 + HALF, True), (11 - TINY, True), (11, False), (11 + TINY, True), (12, True)):
            self.check_rule(zone(0, 4, 6, 3, 3), NONE, times, 0, t, expected)

    def test_zones_with_faults(self):
        # The times of the cues stay, also behind the fault: stopped at 1, it stays at 1/2 up to the last cue and on.
        times = [0, 10, 0, 11]
        self.check(2, STOP, times, 1, 11 - TINY, True)
        self.check(2, STOP, times, 1, 11, False)
        self.check(2, STOP, times, 1, 11 + TINY, True)
        self.check(2, STOP, times, 4, 11, True)
        self.check(2, seize(0, 5), times, 1, 11, False)
        self.check(2, seize(1, 5), times, 1, 11, True)
        self.check(2, seize(1, 0), times, 1, 11, False)

    def test_as_the_words_say(self):
        source = random.Random(43)
        counts = {True: 0, False: 0}
        for _ in range(60):
            show = sample_show(source)
            times = timing_of(show[0], [Fraction(source.randint(0, 2), 2) for _ in show[0]])
            for _ in range(20):
                fault = source.choice((NONE, STOP, seize(source.randrange(len(show[1])), source.choice((0, 1, HALF)))))
                f = 0 if fault == NONE else source.choice((0, *times)) + source.choice((0, HALF, 1))
                t = max(f, source.choice((f, *times)) + source.choice((0, 0, HALF, 1)))
                rule = source.randrange(len(show[2]))
                word, a, *rest = show[2][rule]
                at = slow_place(show, fault, times, f, t, a)
                if word == "weigh":
                    u, b, w, limit = rest
                    other = slow_place(show, fault, times, f, t, b)
                    expected = fraction(u) * at + fraction(w) * other >= fraction(limit)
                else:
                    low, high, i, j = rest
                    expected = not (times[i] <= t <= times[j] and fraction(low) < at < fraction(high))
                counts[expected] += 1
                self.assertIs(is_kept(show, rule, fault, moment(times, f, t)), expected)
        self.assertGreater(min(counts.values()), 100)


class IsMomentTest(unittest.TestCase):
    def check(self, fault, times, f, t, expected):
        self.assertIs(is_moment(SHOW, fault, moment(times, f, t)), expected)

    def test_without_a_fault(self):
        times = [1, 12, 0, 13]
        for t in (0, TINY, 5, 10 ** 9):
            self.check(NONE, times, 0, t, True)
        for t in (-TINY, -1):
            self.check(NONE, times, 0, t, False)
        for f in (TINY, 1, 5, -TINY, -1):
            self.check(NONE, times, f, 5, False)

    def test_with_a_fault(self):
        times = [1, 12, 0, 13]
        for fault in (STOP, seize(0, 0), seize(1, 5)):
            for f, t in ((0, 0), (0, 5), (TINY, TINY), (3, 3), (3, 3 + TINY), (3, 100), (100, 200)):
                self.check(fault, times, f, t, True)
            for f, t in ((3, 3 - TINY), (3, 0), (TINY, 0), (3, -3), (-TINY, 0), (-1, 5), (-1, -1), (-2, -3)):
                self.check(fault, times, f, t, False)

    def test_times_that_are_no_timing(self):
        for fault in (NONE, STOP, seize(0, 2)):
            for times in ([0, 10, 0, 11], [4, 16, 20, 19], [2, 13, 7, 15]):
                self.check(fault, times, 0, 5, True)
            for times in ([], [1], [1, 12, 0], [1, 12, 0, 13, 0], [-1, 10, 0, 11], [5, 16, 0, 17], [1, 10, 0, 11],
                          [1, 14, 0, 15], [1, 12, 21, 13], [1, 12, 0, 12], [1, 12, 0, 15 + TINY],
                          [0, 10 - TINY, 0, 11]):
                self.check(fault, times, 0, 5, False)


class NothingIsModifiedTest(unittest.TestCase):
    def test_the_arguments_stay_as_they_are(self):
        kept = copy.deepcopy(SHOW)
        one = moment([1, 12, 0, 13], 3, 5)
        same = copy.deepcopy(one)
        for _ in range(2):
            check_show(SHOW)
            for fault in (STOP, seize(0, 1), seize(1, 1)):
                check_fault(SHOW, fault)
                for rule in range(4):
                    is_kept(SHOW, rule, fault, one)
                self.assertIs(is_moment(SHOW, fault, one), True)
            self.assertEqual(fraction(place(SHOW, STOP, one, 0)), 3)
        self.assertEqual(SHOW, kept)
        self.assertEqual(one, same)


class PlaceTest(unittest.TestCase):
    def test_the_functions_are_defined_here(self):
        for function in (check_show, check_fault, place, is_kept, is_moment):
            self.assertEqual(function.__module__, "traproom.shows")


if __name__ == "__main__":
    unittest.main()
