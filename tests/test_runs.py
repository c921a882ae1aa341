import copy
import random
import unittest
from fractions import Fraction

from tests.helpers import fraction, machine, plain_sheet, ratio, seize, sheet, slow_place, weigh, zone
from tests.stages import BACK, HALF, NONE, OUT, SHOWS, STOP, TINY, UP, around, faults_of, sampled
from traproom.errors import BadCall
from traproom.ratios import Ratio
from traproom.runs import Run
from traproom.shows import check_show
from traproom.sheets import is_timing
from traproom.verdicts import is_sound, least_value, verdict

# 0 is called from 1 to 3, 1 from 1 to 2 behind it, 2 from 0 on up to 10, 3 with 1, 4 from 2 to 5 behind 2.
CUES = sheet((-1, 1, 3), (0, 1, 2), (-1, 0, 10), (1, 0, 0), (2, 2, 5))
SHOW = around(CUES, machine(0, 1, (0, UP)), machine(7, HALF, (4, OUT)), machine(-1, 1))
CHAIN = around(sheet((-1, 0, 1), (0, 4, 9), (1, 4, 4)), machine(0, 1, (0, UP), (1, BACK), (2, OUT)), machine(5, 1))


def run_of(show, *calls):
    """The run after calls, pairs of a cue and a time."""
    made = Run(show)
    for cue, time in calls:
        made.call(cue, ratio(time))
    return made


def plain_calls(run):
    return [(cue, fraction(time)) for cue, time in run.called()]


def slow_late(cues, calls, time):
    """The open cues that are late, by the words: calls is a dict."""
    found = []
    for cue, (parent, _, most) in enumerate(plain_sheet(cues)):
        begin = 0 if parent == -1 else calls.get(parent)
        if cue not in calls and begin is not None and time > begin + most:
            found.append(cue)
    return found


def slow_can_call(cues, calls, cue, time):
    if not 0 <= cue < len(cues) or cue in calls:
        return False
    parent, low, _ = plain_sheet(cues)[cue]
    begin = 0 if parent == -1 else calls.get(parent)
    if begin is None or time < begin + low or any(time < other for other in calls.values()):
        return False
    return slow_late(cues, calls, time) == []


class Checks(unittest.TestCase):
    def check_can(self, expected, run, cue, time):
        """A cue can or can't be called; if not, BadCall is raised and the run is as before."""
        self.assertIs(run.can_call(cue, ratio(time)), expected)
        before, other = self.looks(run), run.copy()
        if expected:
            self.assertIsNone(other.call(cue, ratio(time)))
            self.assertIn((cue, Fraction(time)), plain_calls(other))
        else:
            with self.assertRaises(BadCall):
                other.call(cue, ratio(time))
            self.assertEqual(self.looks(other), before)
        self.assertEqual(self.looks(run), before)

    def looks(self, run):
        """All that a run tells."""
        show = run.left()
        times = [ratio(Fraction(k, 2)) for k in range(60)]
        return (plain_calls(run), show, [run.late(time) for time in times],
                [[self.place_in(run, which, time) for time in times] for which in range(len(show[1]))],
                [[run.can_call(cue, time) for time in times] for cue in range(len(show[0]))])

    def place_in(self, run, which, time):
        try:
            return fraction(run.where(which, time))
        except BadCall:
            return None


class CallTest(Checks):
    def test_the_first_call(self):
        run = Run(SHOW)
        for time, expected in ((0, False), (1 - TINY, False), (1, True), (2, True), (3, True), (3 + TINY, False)):
            self.check_can(expected, run, 0, time)
        # The cue 2 may be called from 0 on, but not once the cue 0 is late.
        for time, expected in ((-1, False), (-TINY, False), (0, True), (1, True), (3, True), (3 + TINY, False),
                               (10, False)):
            self.check_can(expected, run, 2, time)

    def test_cues_whose_parent_was_not_called(self):
        run = Run(SHOW)
        for cue in (1, 3, 4):
            for time in (0, 1, 2, 3, 5):
                self.check_can(False, run, cue, time)
        run.call(2, ratio(0))
        for time in (0, 2, 3):
            self.check_can(False, run, 1, time)
            self.check_can(False, run, 3, time)
        self.check_can(True, run, 4, 2)

    def test_integers_that_are_no_cues(self):
        for run in (Run(SHOW), run_of(SHOW, (2, 0), (0, 1))):
            for cue in (-1, -2, -3, -5, -6, 5, 6, 10 ** 30, -10 ** 30):
                for time in (0, 1, 2, 3):
                    self.check_can(False, run, cue, time)

    def test_too_early_and_too_late_behind_the_parent(self):
        run = run_of(SHOW, (0, 2))
        for time, expected in ((2, False), (3 - TINY, False), (3, True), (4, True), (4 + TINY, False), (9, False)):
            self.check_can(expected, run, 1, time)

    def test_a_cue_that_follows_at_once(self):
        run = run_of(SHOW, (0, 2), (1, 3))
        for time, expected in ((2, False), (3, True), (3 + TINY, False)):
            self.check_can(expected, run, 3, time)

    def test_twice(self):
        run = run_of(SHOW, (0, 2))
        for time in (2, 3, 4):
            self.check_can(False, run, 0, time)
        run.call(1, ratio(3))
        self.check_can(False, run, 1, 3)
        self.check_can(False, run, 0, 3)

    def test_before_the_last_call(self):
        run = run_of(SHOW, (0, 2))
        for time, expected in ((0, False), (1, False), (2 - TINY, False), (2, True), (4, True)):
            self.check_can(expected, run, 2, time)

    def test_while_another_open_cue_is_late(self):
        run = run_of(SHOW, (0, 2))
        # The cue 1 has to be called up to 4.
        for time, expected in ((3, True), (4, True), (4 + TINY, False), (5, False), (10, False)):
            self.check_can(expected, run, 2, time)
        # The cue 3 has to be called just with it.
        run.call(1, ratio(4))
        for time, expected in ((4, True), (4 + TINY, False), (9, False)):
            self.check_can(expected, run, 2, time)
        run.call(3, ratio(4))
        for time, expected in ((4, True), (5, True), (10, True), (10 + TINY, False)):
            self.check_can(expected, run, 2, time)

    def test_several_at_one_time_in_any_order(self):
        for order in ((0, 2), (2, 0)):
            run = run_of(SHOW, *[(cue, 2) for cue in order])
            self.assertEqual(plain_calls(run), [(0, 2), (2, 2)])
        for order in ((1, 2, 3, 4), (1, 2, 4, 3), (2, 1, 3, 4), (2, 4, 1, 3), (1, 3, 2, 4)):
            show = (sheet((-1, 1, 3), (0, 1, 2), (-1, 0, 10), (1, 0, 0), (2, 0, 5)), *SHOW[1:])
            run = run_of(show, (0, 2), *[(cue, 3) for cue in order])
            self.assertEqual(plain_calls(run), [(0, 2), (1, 3), (2, 3), (3, 3), (4, 3)])

    def test_all_calls(self):
        run = run_of(SHOW, (0, 3), (1, 5), (3, 5), (2, 9), (4, 14))
        self.assertEqual(plain_calls(run), [(0, 3), (1, 5), (2, 9), (3, 5), (4, 14)])
        self.assertEqual(run.late(ratio(1000)), [])
        for cue in range(-1, 6):
            for time in (0, 14, 15, 100):
                self.check_can(False, run, cue, time)

    def test_a_run_that_can_not_go_on(self):
        run = run_of(SHOW, (0, 3), (1, 5), (3, 5), (2, 6))
        self.check_can(True, run, 4, 11)
        self.check_can(False, run, 4, 11 + TINY)

    def test_by_the_words(self):
        source = random.Random(81)
        counts = {True: 0, False: 0}
        for show in [SHOW, CHAIN, *SHOWS.values(), *sampled(source, 30)]:
            run, calls = Run(show), {}
            for _ in range(60):
                cue = source.randint(-1, len(show[0]))
                begin = source.choice([0, *calls.values()])
                near = source.choice(plain_sheet(show[0]))
                time = begin + source.choice((0, near[1], near[2], (near[1] + near[2]) / 2, near[2] + TINY, 1))
                expected = slow_can_call(show[0], calls, cue, time)
                counts[expected] += 1
                self.assertIs(run.can_call(cue, ratio(time)), expected)
                if expected:
                    run.call(cue, ratio(time))
                    calls[cue] = time
                else:
                    with self.assertRaises(BadCall):
                        run.call(cue, ratio(time))
                self.assertEqual(plain_calls(run), sorted(calls.items()))
                self.assertEqual(run.late(ratio(time)), slow_late(show[0], calls, time))
            if len(calls) == len(show[0]):
                self.assertTrue(is_timing(show[0], [time for _, time in run.called()]))
        self.assertGreater(counts[True], 60)


class CalledAndLateTest(Checks):
    def test_called(self):
        run = Run(SHOW)
        self.assertEqual(run.called(), [])
        run.call(2, ratio(1))
        self.assertEqual(run.called(), [(2, ratio(1))])
        self.assertIsInstance(run.called()[0], tuple)
        self.assertIsInstance(run.called()[0][1], Ratio)
        run.call(0, ratio(HALF * 3))
        self.assertEqual(run.called(), [(0, ratio(HALF * 3)), (2, ratio(1))])
        run.call(1, ratio(3))
        self.assertEqual(plain_calls(run), [(0, HALF * 3), (1, 3), (2, 1)])

    def check_late(self, run, *expected):
        for time, cues in expected:
            found = run.late(ratio(time))
            self.assertIsInstance(found, list)
            self.assertEqual(found, cues, time)

    def test_late_before_all_calls(self):
        self.check_late(Run(SHOW), (-5, []), (0, []), (3, []), (3 + TINY, [0]), (10, [0]), (10 + TINY, [0, 2]),
                        (10 ** 9, [0, 2]))

    def test_late_between_calls(self):
        run = run_of(SHOW, (2, 1))
        self.check_late(run, (0, []), (3, []), (3 + TINY, [0]), (6, [0]), (6 + TINY, [0, 4]))
        run.call(0, ratio(2))
        self.check_late(run, (4, []), (4 + TINY, [1]), (6, [1]), (7, [1, 4]))
        run.call(1, ratio(3))
        self.check_late(run, (3, []), (3 + TINY, [3]), (7, [3, 4]))
        run.call(3, ratio(3))
        self.check_late(run, (3 + TINY, []), (6, []), (7, [4]), (100, [4]))
        run.call(4, ratio(6))
        self.check_late(run, (6, []), (100, []))

    def test_a_cue_that_is_not_open_is_not_late(self):
        self.check_late(run_of(SHOW, (0, 2)), (10, [1]), (11, [1, 2]))


class WhereTest(Checks):
    def check_bad(self, run, which, time):
        with self.assertRaises(BadCall):
            run.where(which, ratio(time))

    def check_where(self, run, which, time, expected):
        found = run.where(which, ratio(time))
        self.assertIsInstance(found, Ratio)
        self.assertEqual(fraction(found), expected)

    def test_before_all_calls(self):
        for which in range(3):
            for time in (-1, 0, 1, 5):
                self.check_bad(Run(SHOW), which, time)

    def test_from_0_to_the_last_call(self):
        run = run_of(SHOW, (0, 2))
        for time in (0, 1, 2):
            self.check_where(run, 0, time, 0)
            self.check_where(run, 1, time, 7)
            self.check_where(run, 2, time, -1)
        for time in (-1, -TINY, 2 + TINY, 3, 100):
            for which in range(3):
                self.check_bad(run, which, time)
        run.call(1, ratio(Fraction(7, 2)))
        for time, expected in ((0, 0), (2, 0), (3, HALF), (Fraction(7, 2), Fraction(9, 8))):
            self.check_where(run, 0, time, expected)
        self.check_bad(run, 0, Fraction(7, 2) + TINY)
        run.call(3, ratio(Fraction(7, 2)))
        run.call(2, ratio(8))
        for time, expected in ((3, HALF), (4, 2), (5, Fraction(7, 2)), (6, 4), (8, 4)):
            self.check_where(run, 0, time, expected)
            self.check_where(run, 1, time, 7)
        run.call(4, ratio(10))
        self.check_where(run, 1, 10, 7)
        self.check_bad(run, 1, 11)

    def test_the_first_call_at_0(self):
        run = run_of(SHOW, (2, 0))
        self.check_where(run, 0, 0, 0)
        self.check_bad(run, 0, TINY)
        self.check_bad(run, 0, -TINY)

    def test_several_acts(self):
        run = run_of(CHAIN, (0, 1), (1, 6), (2, 10))
        for time, expected in ((1, 0), (2, HALF), (3, 2), (5, 4), (6, 4), (7, 7 * HALF), (8, 2), (9, HALF), (10, 0)):
            self.check_where(run, 0, time, expected)
            self.check_where(run, 1, time, 5)

    def test_as_in_each_timing_that_begins_so(self):
        source = random.Random(82)
        for show in sampled(source, 20):
            run, calls = Run(show), {}
            for _ in range(200):
                cue = source.randrange(len(show[0]))
                parent, low, high = plain_sheet(show[0])[cue]
                time = calls.get(parent, 0) + source.choice((low, high, (low + high) / 2))
                if run.can_call(cue, ratio(time)):
                    run.call(cue, ratio(time))
                    calls[cue] = time
            if calls:
                last = max(calls.values())
                times = [calls.get(cue, last + 100) for cue in range(len(show[0]))]
                for share in (0, Fraction(1, 7), HALF, Fraction(5, 6), 1):
                    for which in range(len(show[1])):
                        expected = slow_place(show, NONE, times, Fraction(0), share * last, which)
                        self.check_where(run, which, share * last, expected)


class LeftTest(Checks):
    def test_nothing_was_called(self):
        self.assertEqual(Run(SHOW).left(), SHOW)
        self.assertEqual(Run(CHAIN).left(), CHAIN)

    def test_the_waits_that_were_had(self):
        run = run_of(SHOW, (0, 2), (2, 2))
        expected = sheet((-1, 2, 2), (0, 1, 2), (-1, 2, 2), (1, 0, 0), (2, 2, 5))
        self.assertEqual(run.left(), (expected, *SHOW[1:]))
        run.call(1, ratio(Fraction(10, 3)))
        run.call(3, ratio(Fraction(10, 3)))
        run.call(4, ratio(5))
        fourth = Fraction(4, 3)
        expected = sheet((-1, 2, 2), (0, fourth, fourth), (-1, 2, 2), (1, 0, 0), (2, 3, 3))
        self.assertEqual(run.left(), (expected, *SHOW[1:]))
        self.assertIsInstance(run.left(), tuple)
        self.assertIsInstance(run.left()[0], tuple)
        self.assertIsNone(check_show(run.left()))

    def test_what_is_left_of_a_sound_show_is_sound(self):
        source = random.Random(83)
        count = 0
        for show in [*SHOWS.values(), *sampled(source, 25)]:
            asking = (show[0], show[1], tuple(rule for rule in show[2] if rule[0] == "weigh"))
            for fault in source.sample(faults_of(show), 2):
                lows = [fraction(least_value(asking, k, fault)) for k in range(len(asking[2]))]
                rules = tuple((*rule[:5], rule[5] + ratio(low)) for rule, low in zip(asking[2], lows))
                people = [rule for k, rule in enumerate(show[2]) if rule[0] == "zone" and not verdict(show, k, fault)]
                sound = (show[0], show[1], (*rules, *people))
                self.assertTrue(is_sound(sound, [fault]))
                run = Run(sound)
                for _ in range(30):
                    cue = source.randrange(len(show[0]))
                    parent, low, high = plain_sheet(show[0])[cue]
                    time = dict(plain_calls(run)).get(parent, 0) + source.choice((low, high, (low + high) / 2))
                    if run.can_call(cue, ratio(time)):
                        run.call(cue, ratio(time))
                        count += 1
                        self.assertIsNone(check_show(run.left()))
                        self.assertTrue(is_sound(run.left(), [fault]))
        self.assertGreater(count, 60)

    def test_hands_that_have_passed_the_danger(self):
        # The second machine may go against the first one; if it is called late enough, it does not.
        show = around(sheet((-1, 0, 0), (0, 0, 9)), machine(0, 1, (0, OUT)), machine(5, 1, (1, BACK)),
                      rules=(weigh(0, -1, 1, 1, 1), zone(1, 2, 4, 0, 0)))
        self.assertIsNotNone(verdict(show, 0, NONE))
        self.assertIsNotNone(verdict(run_of(show, (0, 0)).left(), 0, NONE))
        self.assertIsNone(verdict(run_of(show, (0, 0), (1, 4)).left(), 0, NONE))
        self.assertIsNone(verdict(run_of(show, (0, 0), (1, 1)).left(), 0, NONE))
        self.assertIsNotNone(verdict(run_of(show, (0, 0), (1, Fraction(1, 4))).left(), 0, NONE))
        self.assertIsNone(verdict(run_of(show, (0, 0), (1, 4)).left(), 0, seize(1, 0)))
        self.assertIsNotNone(verdict(run_of(show, (0, 0), (1, 4)).left(), 0, seize(0, 9)))
        self.assertIsNone(verdict(run_of(show, (0, 0), (1, 4)).left(), 0, STOP))


class CopyTest(Checks):
    def test_each_changes_only_its_own(self):
        run = run_of(SHOW, (0, 2))
        other = run.copy()
        self.assertIsInstance(other, Run)
        self.assertEqual(self.looks(run), self.looks(other))
        other.call(2, ratio(2))
        self.assertEqual(plain_calls(run), [(0, 2)])
        self.assertEqual(plain_calls(other), [(0, 2), (2, 2)])
        run.call(1, ratio(4))
        self.assertEqual(plain_calls(run), [(0, 2), (1, 4)])
        self.assertEqual(plain_calls(other), [(0, 2), (2, 2)])
        # At 3 the one is later than its last call, the other is not.
        self.assertIs(run.can_call(3, ratio(4)), True)
        self.assertIs(other.can_call(1, ratio(3)), True)
        self.assertIs(run.can_call(2, ratio(3)), False)
        third = other.copy()
        other.call(1, ratio(3))
        self.assertEqual(plain_calls(third), [(0, 2), (2, 2)])
        self.assertEqual(third.left()[0][1], SHOW[0][1])

    def test_a_copy_of_a_run_without_calls(self):
        run = Run(SHOW)
        other = run.copy()
        run.call(2, ratio(0))
        self.assertEqual(other.called(), [])
        self.assertEqual(other.left(), SHOW)
        with self.assertRaises(BadCall):
            other.where(0, ratio(0))

    def test_two_runs_of_a_show(self):
        first, second = Run(SHOW), Run(SHOW)
        first.call(0, ratio(2))
        self.assertEqual(second.called(), [])
        self.assertIs(second.can_call(0, ratio(1)), True)


class NothingIsSharedTest(Checks):
    def test_lists_that_are_returned_may_be_changed(self):
        kept = copy.deepcopy(SHOW)
        run = run_of(SHOW, (0, 2), (1, 3))
        before = self.looks(run)
        for made in (run.called(), run.late(ratio(50)), run.called(), run.late(ratio(50))):
            self.assertNotEqual(made, [])
            made.clear()
        run.called().append((2, ratio(7)))
        run.late(ratio(50)).append(4)
        self.assertEqual(self.looks(run), before)
        self.assertEqual(SHOW, kept)

    def test_questions_change_nothing(self):
        run = run_of(SHOW, (0, 2), (1, 3))
        before = self.looks(run)
        for _ in range(2):
            self.assertEqual(self.looks(run), before)

    def test_the_methods_are_defined_in_the_class(self):
        self.assertEqual(Run.__module__, "traproom.runs")
        for name in ("can_call", "call", "called", "late", "where", "left", "copy"):
            self.assertIn(name, vars(Run))

    def test_moments_of_a_run(self):
        """What a run of all cues has told is where the machines are in this timing."""
        run = run_of(CHAIN, (0, 1), (1, 6), (2, 10))
        times = [time for _, time in run.called()]
        self.assertTrue(is_timing(CHAIN[0], times))
        for time in range(11):
            expected = slow_place(CHAIN, NONE, [1, 6, 10], Fraction(0), time, 0)
            self.assertEqual(fraction(run.where(0, ratio(time))), expected)


if __name__ == "__main__":
    unittest.main()
