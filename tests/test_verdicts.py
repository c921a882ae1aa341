import copy
import random
import unittest
from fractions import Fraction

from tests.helpers import fraction, fractions, machine, moment, move, seize, sheet, weigh, zone
from tests.stages import (
    BACK, HALF, NONE, OUT, SHOWS, STOP, TINY, UP, around, asked, drawn, faults_of, raised, sampled, span, with_rule,
    worth,
)
from traproom.cases import cases
from traproom.judges import accepts
from traproom.quadratics import evidence
from traproom.ratios import Ratio
from traproom.shows import check_show, is_kept, is_moment
from traproom.verdicts import evidence_of, is_sound, least_value, verdict


class Checks(unittest.TestCase):
    def check_broken(self, show, rule, fault, found):
        """It is a moment at which the rule is not kept."""
        self.assertIsInstance(found, tuple)
        self.assertEqual(len(found), 3)
        self.assertIsInstance(found[0], list)
        self.assertTrue(all(isinstance(x, Ratio) for x in (*found[0], *found[1:])))
        self.assertTrue(is_moment(show, fault, found), (show, rule, fault, found))
        self.assertFalse(is_kept(show, rule, fault, found), (show, rule, fault, found))

    def worth_of(self, show, rule, fault, found):
        times, f, t = found
        return worth(show, rule, fault, fractions(times), fraction(f), fraction(t))

    def check_weigh(self, show, rule, fault, least=None):
        """The least value, and verdicts of the rule that asks for just as much as is kept, more, and less."""
        low = least_value(show, rule, fault)
        self.assertIsInstance(low, Ratio)
        if least is not None:
            self.assertEqual(fraction(low), least)
        for more in (0, -TINY, -1, TINY, 1, 10 ** 9):
            asking = with_rule(show, raised(show[2][rule], fraction(low) + more))
            found = verdict(asking, 0, fault)
            self.assertEqual(fraction(least_value(asking, 0, fault)), -more)
            if more <= 0:
                self.assertIsNone(found)
            else:
                self.check_broken(asking, 0, fault, found)
                self.assertEqual(self.worth_of(asking, 0, fault, found), -more)
        return fraction(low)

    def check_zone(self, safe, show, rule, fault):
        found = verdict(show, rule, fault)
        if safe:
            self.assertIsNone(found, (show, rule, fault))
        else:
            self.check_broken(show, rule, fault, found)

    def check_drawn(self, source, show, rule, fault, count):
        """What a slow look at many moments says."""
        found = verdict(show, rule, fault)
        if found is not None:
            self.check_broken(show, rule, fault, found)
        low = least_value(show, rule, fault) if show[2][rule][0] == "weigh" else None
        if low is not None:
            self.assertEqual(found is None, fraction(low) >= 0)
        if low is not None and found is not None:
            self.assertEqual(self.worth_of(show, rule, fault, found), fraction(low))
        for times, f, t in drawn(source, show, rule, fault, count):
            kept = is_kept(show, rule, fault, moment(times, f, t))
            self.assertFalse(found is None and not kept, (show, rule, fault, times, f, t))
            if low is not None:
                self.assertGreaterEqual(worth(show, rule, fault, times, f, t), fraction(low))


class WeighTest(Checks):
    def test_named_shows(self):
        source = random.Random(61)
        for name, show in SHOWS.items():
            with self.subTest(name):
                for rule, fault in asked(show, source, 2):
                    self.check_drawn(source, show, rule, fault, 60)
                    if show[2][rule][0] == "weigh":
                        self.check_weigh(show, rule, fault)

    def test_sampled_shows(self):
        source = random.Random(62)
        counts = {True: 0, False: 0}
        for show in sampled(source, 30):
            for rule, fault in asked(show, source, 2):
                self.check_drawn(source, show, rule, fault, 40)
                counts[verdict(show, rule, fault) is None] += 1
        self.assertGreater(min(counts.values()), 20)

    def test_one_machine_that_moves(self):
        # It goes from 0 to 4; stopped at the speed 2 at 2, it goes on by 4.
        show = around(sheet((-1, 1, 2)), machine(0, HALF, (0, UP)), machine(10, 1),
                      rules=(weigh(0, -1, 1, 1, 3), weigh(1, 2, 0, 1, 0), weigh(0, 1, 1, -1, 0)))
        for fault, most in ((NONE, 4), (STOP, 6), (seize(0, 0), 4), (seize(1, 0), 6), (seize(1, 4), 6),
                            (seize(1, 5), 9 * HALF), (seize(1, 6), 4)):
            self.check_weigh(show, 0, fault, 7 - most)
            self.check_weigh(show, 1, fault, 20)
            self.check_weigh(show, 2, fault, -10)

    def test_a_way_out_and_back(self):
        # Out to 2; stopped at 1 with the speed 2 or -2 it comes to rest 2 further on.
        show = around(sheet((-1, 1, 2)), machine(0, 1, (0, OUT)), machine(0, 1),
                      rules=(weigh(0, -1, 1, 1, 0), weigh(0, 1, 1, 1, 0)))
        for fault, high, low in ((NONE, 2, 0), (STOP, 3, -1), (seize(0, 0), 2, 0), (seize(1, 0), 3, -1)):
            self.check_weigh(show, 0, fault, -high)
            self.check_weigh(show, 1, fault, low)

    def test_the_least_value_is_within_a_stretch(self):
        # It turns round at 9/4 behind the cue, at the position -9/4, where no stretch ends.
        show = around(sheet((-1, 1, 2)), machine(0, 1, (0, move((1, -3), (2, Fraction(3, 2))))), machine(0, 1),
                      rules=(weigh(0, 1, 1, 1, 0),))
        self.check_weigh(show, 0, NONE, -9 * HALF)
        show = around(sheet((-1, 1, 2)), machine(0, 1, (0, move((1, -2), (2, 2), (1, -2)))), machine(0, 1),
                      rules=(weigh(0, 1, 1, 1, 0),))
        self.check_weigh(show, 0, NONE, -2)

    def test_two_machines_one_behind_the_other(self):
        # Later by at least 1: when the first one slows down, the second one comes near, up to 4 less 15/4.
        show = around(sheet((-1, 0, 5), (0, 1, 3)), machine(5, 1, (0, UP)), machine(0, 1, (1, UP)),
                      rules=(weigh(1, -1, 0, 1, 0),))
        self.check_weigh(show, 0, NONE, 5)
        # If the first one seizes at once, the second one comes to 4.
        self.check_weigh(show, 0, seize(0, 100), 1)
        # Stopped when the first one has just begun, and the second one not yet: 5.
        self.check_weigh(show, 0, STOP, 5)
        # With a worse brake the second one goes on by 4 from the speed 2, where the first one is ahead by 5 and more.
        show = around(sheet((-1, 0, 5), (0, 1, 3)), machine(5, 1, (0, UP)), machine(0, HALF, (1, UP)),
                      rules=(weigh(1, -1, 0, 1, 0),))
        self.check_weigh(show, 0, STOP, 3)
        self.check_weigh(show, 0, seize(1, 0), 5)

    def test_the_same_rule_with_the_machines_in_the_other_order(self):
        source = random.Random(63)
        for show in sampled(source, 12):
            for rule, fault in asked(show, source, 2):
                if show[2][rule][0] == "weigh":
                    _, a, u, b, w, limit = show[2][rule]
                    turned = with_rule(show, ("weigh", b, w, a, u, limit))
                    self.assertEqual(least_value(turned, 0, fault), least_value(show, rule, fault))
                    self.assertEqual(verdict(turned, 0, fault) is None, verdict(show, rule, fault) is None)

    def test_weights_changed_about_belong_to_the_other_machine(self):
        show = around(sheet((-1, 1, 2)), machine(0, HALF, (0, UP)), machine(10, 1), rules=(weigh(0, -1, 1, 2, 0),))
        self.check_weigh(show, 0, NONE, 16)
        self.check_weigh(with_rule(show, weigh(0, 2, 1, -1, 0)), 0, NONE, -10)
        self.check_weigh(with_rule(show, weigh(1, -1, 0, 2, 0)), 0, NONE, -10)
        self.check_weigh(with_rule(show, weigh(1, 2, 0, -1, 0)), 0, NONE, 16)

    def test_weights(self):
        show = SHOWS["by a cue and the one that follows it"]
        for fault in faults_of(show):
            for u, w in ((1, 0), (0, 1), (-1, 1), (2, -1)):
                one = self.check_weigh(with_rule(show, weigh(0, u, 1, w, 0)), 0, fault)
                for factor in (Fraction(3, 7), 5, TINY):
                    more = with_rule(show, weigh(0, u * factor, 1, w * factor, 0))
                    self.assertEqual(fraction(least_value(more, 0, fault)), one * factor)
            self.check_weigh(with_rule(show, weigh(0, 0, 1, 0, 0)), 0, fault, 0)
            self.check_weigh(with_rule(show, weigh(0, 0, 1, 0, -3)), 0, fault, 3)
            self.check_weigh(with_rule(show, weigh(0, 0, 1, 0, 3)), 0, fault, -3)


class ZoneTest(Checks):
    def check_ends(self, fault, cues, acts, i, j, low, high):
        """From i to j the machine is from low to high: a zone may touch this at one end, but not come into it."""
        show = around(cues, machine(0, HALF, *acts), machine(0, 1), rules=(zone(0, 0, 1, i, j),))
        check_show(show)
        for a, b, safe in ((high, high + 1, True), (high - TINY, high + 1, False), (low - 1, low, True),
                           (low - 1, low + TINY, False), (high + 1, high + 2, True), (low - 9, low - 1, True),
                           (low - 1, high + 1, False), (low - TINY, high + TINY, False)):
            self.check_zone(safe, with_rule(show, zone(0, a, b, i, j)), 0, fault)
        if low < high:
            # It goes through all of them, and none of them is a corner.
            for share in (Fraction(1, 3), Fraction(2, 7), Fraction(99, 100)):
                at = low + share * (high - low)
                self.check_zone(False, with_rule(show, zone(0, at, at + TINY, i, j)), 0, fault)
            self.check_zone(False, with_rule(show, zone(0, low, high, i, j)), 0, fault)

    def test_named_shows(self):
        source = random.Random(64)
        for name, show in SHOWS.items():
            with self.subTest(name):
                for rule, fault in asked(show):
                    if show[2][rule][0] == "zone":
                        spans = [span(case) for case in cases(show, rule, fault)]
                        low, high = fraction(show[2][rule][2]), fraction(show[2][rule][3])
                        self.check_zone(all(a >= high or b <= low for a, b in spans), show, rule, fault)
                        self.check_drawn(source, show, rule, fault, 20)

    def test_a_zone_that_is_passed_through(self):
        cues = sheet((-1, 0, 2), (0, 9, 9))
        self.check_ends(NONE, cues, [(0, UP)], 0, 1, 0, 4)
        self.check_ends(STOP, cues, [(0, UP)], 0, 1, 0, 6)
        self.check_ends(seize(0, 1), cues, [(0, UP)], 0, 1, 0, 4)
        self.check_ends(seize(1, 0), cues, [(0, UP)], 0, 1, 0, 6)
        self.check_ends(seize(1, 50), cues, [(0, UP)], 0, 1, 0, 4)

    def test_a_zone_that_is_entered_and_left_by_the_same_side(self):
        cues = sheet((-1, 0, 2), (0, 9, 9))
        self.check_ends(NONE, cues, [(0, OUT)], 0, 1, 0, 2)
        # Stopped at the speed 2 or -2 it goes on by 4.
        self.check_ends(STOP, cues, [(0, OUT)], 0, 1, -3, 5)

    def test_a_zone_that_is_left_before_the_first_cue(self):
        # The people come at least 4 behind its cue.
        cues = sheet((-1, 0, 2), (0, 4, 6), (1, 1, 2))
        self.check_ends(NONE, cues, [(0, UP)], 1, 2, 4, 4)
        # A stop may leave it anywhere.
        self.check_ends(STOP, cues, [(0, UP)], 1, 2, 0, 6)
        self.check_ends(seize(0, 0), cues, [(0, UP)], 1, 2, 0, 4)
        cues = sheet((-1, 0, 2), (0, 3, 6), (1, 1, 2))
        self.check_ends(NONE, cues, [(0, UP)], 1, 2, 7 * HALF, 4)

    def test_a_zone_that_is_entered_behind_the_last_cue(self):
        # Its cue is at least 1 behind those of the people.
        cues = sheet((-1, 0, 2), (0, 4, 6), (1, 1, 2))
        for fault in (NONE, STOP, seize(0, 0), seize(1, 7)):
            self.check_ends(fault, cues, [(2, UP)], 0, 1, 0, 0)
        # Or just with it; or up to 1 before it.
        for fault in (NONE, STOP, seize(0, 0), seize(1, 7)):
            self.check_ends(fault, cues, [(1, UP)], 0, 1, 0, 0)
        cues = sheet((-1, 1, 1), (0, 4, 6), (0, 3, 3))
        self.check_ends(NONE, cues, [(2, UP)], 0, 1, 0, Fraction(7, 2))
        self.check_ends(NONE, sheet((-1, 1, 1), (0, 3, 4), (0, 3, 3)), [(2, UP)], 0, 1, 0, HALF)

    def test_a_zone_at_the_time_of_one_cue(self):
        cues = sheet((-1, 0, 2), (0, 1, 2))
        self.check_ends(NONE, cues, [(0, UP)], 1, 1, HALF, 2)
        self.check_ends(NONE, cues, [(0, UP)], 0, 0, 0, 0)
        self.check_ends(STOP, cues, [(0, UP)], 0, 0, 0, 0)
        self.check_ends(STOP, cues, [(0, UP)], 1, 1, 0, 2)

    def test_a_stopped_machine_that_has_not_come_to_rest(self):
        cues = sheet((-1, 0, 2), (0, 3, 3))
        self.check_ends(STOP, cues, [(0, UP)], 0, 1, 0, Fraction(15, 4))
        self.check_ends(seize(1, 0), cues, [(0, UP)], 1, 1, 0, Fraction(15, 4))
        self.check_ends(seize(1, 5), cues, [(0, UP)], 1, 1, Fraction(7, 2), Fraction(7, 2))

    def test_two_acts(self):
        cues = sheet((-1, 0, 2), (0, 4, 5), (1, 4, 9))
        self.check_ends(NONE, cues, [(0, UP), (1, BACK)], 0, 2, 0, 4)
        self.check_ends(NONE, cues, [(0, UP), (1, BACK)], 1, 2, 0, 4)
        self.check_ends(NONE, cues, [(0, UP), (1, BACK)], 2, 2, 0, 0)
        self.check_ends(NONE, cues, [(0, UP), (1, BACK)], 1, 1, 4, 4)
        self.check_ends(STOP, cues, [(0, UP), (1, BACK)], 0, 2, -2, 6)


class IsSoundTest(unittest.TestCase):
    # The piece behind has a worse brake: it reaches the other one when all is stopped.
    CUES = sheet((-1, 0, 5), (0, 1, 3))
    MACHINES = (machine(5, 1, (0, UP)), machine(0, HALF, (1, UP)), machine(20, 1))
    GOOD = weigh(1, -1, 0, 1, 3)
    NOT_WITH_STOP = weigh(1, -1, 0, 1, 4)
    BAD = weigh(1, -1, 0, 1, 6)
    PEOPLE = zone(2, 0, 19, 0, 1)

    def check(self, expected, faults, *rules):
        show = (self.CUES, self.MACHINES, rules)
        check_show(show)
        kept = list(faults)
        self.assertIs(is_sound(show, faults), expected)
        self.assertEqual(faults, kept)
        self.assertEqual(is_sound(show, faults),
                         all(verdict(show, rule, fault) is None for rule in range(len(rules)) for fault in faults))

    def test_no_rule_is_broken(self):
        for faults in ([NONE], [STOP], [NONE, STOP], [seize(2, 1), seize(1, 0), NONE, STOP]):
            self.check(True, faults, self.GOOD)
            self.check(True, faults, self.GOOD, self.PEOPLE, self.GOOD)

    def test_sound_with_none_and_not_with_stop(self):
        self.check(True, [NONE], self.NOT_WITH_STOP)
        self.check(False, [STOP], self.NOT_WITH_STOP)
        self.check(False, [NONE, STOP], self.NOT_WITH_STOP)
        self.check(False, [STOP, NONE], self.NOT_WITH_STOP)

    def test_one_of_several_rules(self):
        for rules in ((self.BAD, self.GOOD, self.PEOPLE), (self.GOOD, self.BAD, self.PEOPLE),
                      (self.PEOPLE, self.GOOD, self.PEOPLE, self.BAD)):
            self.check(False, [NONE], *rules)
            self.check(False, [NONE, STOP], *rules)

    def test_one_of_several_faults(self):
        # Only if the first machine seizes, the second one comes to 1 in front of it.
        only = seize(0, 100)
        for faults in ([only], [only, NONE], [NONE, only], [NONE, STOP, seize(1, 0), only, seize(2, 0)]):
            self.check(False, faults, self.GOOD)
        self.check(True, [NONE, STOP, seize(1, 0), seize(2, 0)], self.GOOD)

    def test_zones(self):
        people = zone(0, 0, 6, 0, 1)
        self.check(False, [NONE], people)
        self.check(False, [NONE], self.GOOD, people)

    def test_no_faults(self):
        self.check(True, [], self.BAD, self.GOOD)

    def test_the_same_fault_twice(self):
        self.check(True, [NONE, NONE], self.GOOD)
        self.check(False, [NONE, STOP, STOP], self.NOT_WITH_STOP)


class EvidenceTest(unittest.TestCase):
    def test_there_is_evidence_just_if_the_show_is_safe(self):
        source = random.Random(65)
        counts = {True: 0, False: 0}
        for show in [*SHOWS.values(), *sampled(source, 15)]:
            for rule, fault in asked(show, source, 2):
                found = evidence_of(show, rule, fault)
                self.assertEqual(found is None, verdict(show, rule, fault) is not None)
                counts[found is None] += 1
                if found is not None:
                    self.assertIsInstance(found, list)
                    self.assertEqual(len(found), len(cases(show, rule, fault)))
                    self.assertIs(accepts(show, rule, fault, found), True)
        self.assertGreater(min(counts.values()), 20)

    def test_the_entries_of_weigh_are_the_faces_of_the_cases(self):
        show = SHOWS["by sisters"]
        for fault in faults_of(show):
            safe = with_rule(show, raised(show[2][0], fraction(least_value(show, 0, fault))))
            found = evidence_of(safe, 0, fault)
            expected = [evidence(quadratic, region, n) for n, region, quadratic in cases(safe, 0, fault)]
            self.assertEqual(found, expected)
            self.assertIsNone(evidence_of(with_rule(safe, raised(safe[2][0], TINY)), 0, fault))

    def test_the_entries_of_zones_tell_on_which_side_they_are(self):
        cues = sheet((-1, 0, 2), (0, 4, 6), (1, 1, 2))
        show = around(cues, machine(0, HALF, (0, UP)), machine(0, 1), rules=(
            zone(0, 1, 4, 1, 2), zone(0, 4, 9, 1, 2), zone(0, 6, 9, 1, 2), zone(0, -9, 0, 1, 2)))
        for rule, fault, word in ((0, NONE, "above"), (1, NONE, "below"), (2, STOP, "below"), (3, STOP, "above")):
            found = evidence_of(show, rule, fault)
            for entry, case in zip(found, cases(show, rule, fault), strict=True):
                self.assertIsInstance(entry, tuple)
                self.assertEqual([len(entry), entry[0]], [2, word])
                self.assertIsInstance(entry[1], list)
                n, region, quadratic = case
                self.assertEqual(entry[1], evidence(quadratic, region, n))

    def test_a_machine_that_is_below_at_one_cue_and_above_at_the_other_one(self):
        cues = sheet((-1, 0, 9), (-1, 3, 3), (-1, 10, 10))
        show = around(cues, machine(0, 1, (1, UP)), machine(0, 1), rules=(
            zone(0, 0, 4, 1, 1), zone(0, 0, 4, 2, 2), zone(0, 0, 4, 0, 0)))
        for rule, word in ((0, "below"), (1, "above")):
            self.assertEqual({entry[0] for entry in evidence_of(show, rule, NONE)}, {word})
        self.assertIsNone(evidence_of(show, 2, NONE))


class NothingIsSharedTest(unittest.TestCase):
    def test_the_arguments_stay_as_they_are_and_answers_too(self):
        show = SHOWS["acts that end just where others begin"]
        kept = copy.deepcopy(show)
        for rule, fault in asked(show):
            first, second = verdict(show, rule, fault), verdict(show, rule, fault)
            self.assertEqual(first, second)
            if first is not None:
                self.assertIsNot(first[0], second[0])
                first[0].clear()
                self.assertEqual(verdict(show, rule, fault), second)
            first, second = evidence_of(show, rule, fault), evidence_of(show, rule, fault)
            self.assertEqual(first, second)
            if first is not None:
                for entry in first:
                    (entry[1] if isinstance(entry, tuple) else entry).clear()
                first.clear()
                self.assertEqual(evidence_of(show, rule, fault), second)
            if show[2][rule][0] == "weigh":
                self.assertEqual(least_value(show, rule, fault), least_value(show, rule, fault))
        self.assertEqual(show, kept)

    def test_the_functions_are_defined_here(self):
        for function in (verdict, least_value, is_sound, evidence_of):
            self.assertEqual(function.__module__, "traproom.verdicts")


if __name__ == "__main__":
    unittest.main()
