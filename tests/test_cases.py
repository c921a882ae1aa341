import copy
import random
import unittest
from fractions import Fraction

from tests.helpers import (
    box, fraction, fractions, machine, moment, move, ratios, seize, sheet, slow_value, weigh, zone,
)
from tests.stages import (
    BACK, HALF, NONE, OUT, SHOWS, STOP, TINY, UP, around, asked, drawn, faults_of, sampled, span, with_rule,
    worth,
)
from traproom.cases import cases, moment_of
from traproom.ratios import Ratio, is_less
from traproom.regions import is_inside, vertices
from traproom.shows import check_show, is_moment

EIGHT = sheet((-1, 0, 2), (0, 1, 3), (0, 2, 2), (2, 0, 5), (1, 4, 6), (-1, 3, 9), (5, 0, 1), (4, 1, 7))


def is_bounded(region, n):
    """True if no direction leads ever on: the forms without their constants are at least 0 just at the point 0."""
    cone = tuple((coefficients, Ratio(0)) for coefficients, _ in region) + box(n, -1, 1)
    return vertices(cone, n) == [ratios([0] * n)]


def mixed(points, source):
    """A point between these, and one between the first one and another one."""
    weights = [source.randint(1, 6) for _ in points]
    middle = [sum(fraction(point[k]) * weight for point, weight in zip(points, weights)) / sum(weights)
              for k in range(len(points[0]))]
    other = source.choice(points)
    return [ratios(middle), [Ratio(1, 3) * (x + x + y) for x, y in zip(points[0], other)]]


class Checks(unittest.TestCase):
    def check_forms(self, found):
        self.assertIsInstance(found, list)
        self.assertGreater(len(found), 0)
        for case in found:
            self.assertIsInstance(case, tuple)
            n, region, (squares, (coefficients, constant)) = case
            self.assertIn(n, (0, 1, 2, 3))
            self.assertIs(type(n), int)
            self.assertIsInstance(region, tuple)
            self.assertLessEqual(len(region), 24)
            for form in (*region, case[2][1]):
                self.assertIsInstance(form, tuple)
                self.assertIsInstance(form[0], tuple)
                self.assertEqual([len(form), len(form[0])], [2, n])
                self.assertTrue(all(isinstance(x, Ratio) for x in (*form[0], form[1])))
            self.assertIsInstance(squares, tuple)
            self.assertEqual([len(squares), *map(len, squares)], [n] * (n + 1))
            for i, row in enumerate(squares):
                self.assertIsInstance(row, tuple)
                self.assertTrue(all(isinstance(x, Ratio) for x in row))
                self.assertTrue(all(fraction(x) == 0 for x in row[:i]))
            self.assertEqual([len(coefficients), type(constant)], [n, Ratio])
            self.assertTrue(is_bounded(region, n), region)
            self.assertNotEqual(vertices(region, n), [])

    def check_drawn(self, source, show, rule, fault, found, count):
        """Each moment has a value of some case."""
        spans = [span(case) for case in found]
        for times, f, t in drawn(source, show, rule, fault, count):
            self.assertTrue(is_moment(show, fault, moment(times, f, t)))
            at = worth(show, rule, fault, times, f, t)
            self.assertTrue(any(low <= at <= high for low, high in spans), (show, rule, fault, times, f, t, at))

    def check_point(self, show, rule, fault, index, case, point):
        """The moment that is told for a point is one, and is worth what the quadratic says."""
        found = moment_of(show, rule, fault, index, point)
        self.assertIsInstance(found, tuple)
        times, f, t = found
        self.assertIsInstance(times, list)
        self.assertTrue(is_moment(show, fault, found), (show, rule, fault, index))
        told = show[2][rule]
        if told[0] == "zone":
            self.assertFalse(is_less(t, times[told[4]]) or is_less(times[told[5]], t))
        at = worth(show, rule, fault, fractions(times), fraction(f), fraction(t))
        self.assertEqual(at, slow_value(case[2], fractions(point)), (show, rule, fault, index))

    def check_points(self, source, show, rule, fault, found, most):
        """The vertices of the regions, and points between them, belong to moments; of many cases take some."""
        for index in source.sample(range(len(found)), min(most, len(found))):
            n, region, _ = case = found[index]
            corners = vertices(region, n)
            for point in corners + mixed(corners, source):
                self.assertTrue(is_inside(region, point))
                self.check_point(show, rule, fault, index, case, point)

    def check(self, source, show, rule, fault, count=40, most=8):
        check_show(show)
        found = cases(show, rule, fault)
        self.check_forms(found)
        self.check_drawn(source, show, rule, fault, found, count)
        self.check_points(source, show, rule, fault, found, most)


class CasesTest(Checks):
    def test_named_shows(self):
        source = random.Random(51)
        for name, show in SHOWS.items():
            with self.subTest(name):
                for rule, fault in asked(show):
                    self.check(source, show, rule, fault, 40, 5)

    def test_sampled_shows(self):
        source = random.Random(52)
        for show in sampled(source, 16):
            for rule, fault in asked(show, source, 2):
                self.check(source, show, rule, fault)

    def test_eight_cues(self):
        source = random.Random(53)
        show = around(EIGHT, machine(0, 1, (1, UP), (7, BACK)), machine(5, HALF, (3, OUT)), machine(2, 3, (6, BACK)),
                      machine(-4, 1, (4, move((1, 0)))),
                      rules=(weigh(0, -1, 1, 1, 0), weigh(2, 1, 1, -2, 0), zone(0, 1, 3, 1, 7), zone(1, 1, 4, 0, 3)))
        for rule, fault in asked(show):
            self.check(source, show, rule, fault, 40, 3)

    def test_weights_of_all_kinds(self):
        source = random.Random(54)
        show = SHOWS["by a cue and the one that follows it"]
        for u, w in ((0, 0), (0, 1), (-HALF, 0), (3, 2), (-3, Fraction(-1, 7)), (TINY, -10 ** 20)):
            for fault in faults_of(show):
                self.check(source, with_rule(show, weigh(0, u, 1, w, Fraction(5, 3))), 0, fault, 30, 6)
                self.check(source, with_rule(show, weigh(1, u, 0, w, -1)), 0, fault, 30, 6)

    def test_zones_of_all_pairs_of_cues(self):
        source = random.Random(55)
        show = SHOWS["by sisters"]
        for a in range(2):
            for i, j in ((0, 0), (1, 1), (2, 2), (0, 1), (0, 2)):
                for fault in faults_of(show):
                    self.check(source, with_rule(show, zone(a, 0, 1, i, j)), 0, fault, 30)

    def test_great_and_small_numbers(self):
        source = random.Random(56)
        show = around(sheet((-1, TINY, 10 ** 20), (0, 0, TINY)), machine(10 ** 9, TINY, (0, UP)),
                      machine(TINY, 10 ** 9, (1, move((TINY, 3), (TINY, -3)))))
        for rule, fault in asked(show):
            self.check(source, show, rule, fault, 20, 6)

    def test_lags(self):
        source = random.Random(57)
        for name in ("by sisters", "acts that end just where others begin"):
            for lag in (0, TINY, 2, 4, 100):
                for which in range(2):
                    for rule in range(len(SHOWS[name][2])):
                        self.check(source, SHOWS[name], rule, seize(which, lag), 30, 4)


class EdgesTest(Checks):
    """All moments at which something begins or ends have values of cases, and the values do not go beyond them."""

    def check_spans(self, show, rule, fault, low, high):
        spans = [span(case) for case in cases(show, rule, fault)]
        self.assertEqual((min(a for a, _ in spans), max(b for _, b in spans)), (low, high))

    def test_one_machine_that_moves(self):
        show = around(sheet((-1, 1, 2)), machine(0, HALF, (0, UP)), machine(10, 1),
                      rules=(weigh(0, 1, 1, 1, 3), weigh(1, 2, 0, -3, 0)))
        # It goes from 0 to 4. Stopped at its greatest speed, 2 at the position 2, it comes to rest at 2 + 4.
        # With a lag of 5 the stop comes when the speed is 1 at the most, at 7/2.
        for fault, most in ((NONE, 4), (STOP, 6), (seize(0, 0), 4), (seize(0, 5), 4), (seize(1, 0), 6),
                            (seize(1, 4), 6), (seize(1, 5), 9 * HALF), (seize(1, 6), 4), (seize(1, 100), 4)):
            self.check_spans(show, 0, fault, 7, most + 7)
            self.check_spans(show, 1, fault, 20 - 3 * most, 20)

    def test_a_lag_that_is_longer_than_all_waits(self):
        # Until the lag is over the first machine has gone all its way; the second one may seize at once.
        show = around(sheet((-1, 1, 2)), machine(0, HALF, (0, UP)), machine(0, 1, (0, UP)),
                      rules=(weigh(0, -1, 1, 1, 0), weigh(0, 1, 1, -1, 0)))
        self.check_spans(show, 0, seize(1, 6), -4, 0)
        self.check_spans(show, 1, seize(1, 6), 0, 4)
        # With a lag of 0 the second one stays at 2, where the first one is as quick as it can be.
        self.check_spans(show, 0, seize(1, 0), -4, 0)
        self.check_spans(show, 0, seize(0, 0), 0, 2)

    def test_two_machines_by_the_same_cue(self):
        # Both go the same way at the same time, but the brake of the second one is better.
        show = around(sheet((-1, 0, 5)), machine(0, HALF, (0, UP)), machine(0, 2, (0, UP)), rules=(
            weigh(0, 1, 1, -1, 0),))
        self.check_spans(show, 0, NONE, 0, 0)
        # At the speed 2 they need 2 * 2 and 2 / 2 to come to rest.
        self.check_spans(show, 0, STOP, 0, 3)

    def test_a_cue_and_the_one_that_follows_it(self):
        # The second machine goes after the first one, later by 3 at the most; then it is behind by 4 less two times
        # 1/8 when the first one has gone for 7/2.
        show = around(sheet((-1, 0, 5), (0, 1, 3)), machine(0, 1, (0, UP)), machine(0, 1, (1, UP)),
                      rules=(weigh(0, 1, 1, -1, 0),))
        self.check_spans(show, 0, NONE, 0, Fraction(15, 4))

    def test_sisters(self):
        # The second one goes later by at most 2, or earlier by at most 1.
        show = around(sheet((-1, 5, 5), (0, 1, 2), (0, 1, 3)), machine(0, 1, (1, UP)), machine(0, 1, (2, UP)),
                      rules=(weigh(0, 1, 1, -1, 0),))
        self.check_spans(show, 0, NONE, Fraction(-7, 4), 3)

    def test_cues_that_share_no_way(self):
        show = around(sheet((-1, 1, 2), (-1, 2, 10)), machine(0, 1, (0, UP)), machine(0, 1, (1, UP)),
                      rules=(weigh(0, 1, 1, -1, 0),))
        self.check_spans(show, 0, NONE, 0, 4)
        self.check_spans(show, 0, STOP, 0, 4)

    def test_machines_that_rest(self):
        show = SHOWS["two machines that rest"]
        for fault in faults_of(show):
            self.check_spans(show, 0, fault, 1, 1)
            self.check_spans(show, 1, fault, 7 * Fraction(2, 3) + 1, 7 * Fraction(2, 3) + 1)
            self.check_spans(show, 2, fault, 0, 0)
            self.assertTrue(all(n == 0 for n, _, _ in cases(show, 0, fault)))

    def test_a_stop_while_nothing_goes_on(self):
        # It goes from 1 to 5, and back from 7 to 11.
        show = around(sheet((-1, 1, 1), (0, 6, 6), (1, 4, 4)), machine(0, HALF, (0, UP), (1, BACK)), machine(0, 1),
                      rules=(zone(0, 1, 2, 1, 1), zone(0, 1, 2, 2, 2), weigh(0, 1, 1, 0, 0)))
        self.check_spans(show, 0, NONE, 4, 4)
        self.check_spans(show, 0, seize(1, 5), 4, 4)
        # Stopped at 4 at the earliest, it is at 7/2 with the speed 1, and goes on by 1.
        self.check_spans(show, 0, seize(1, 4), 4, 9 * HALF)
        self.check_spans(show, 1, NONE, 0, 0)
        # Stopped between the moves it stays at 4; at 9, at 2 with the speed -2, it goes on by 4 - 1 up to 11.
        self.check_spans(show, 1, seize(1, 5), -1, 4)
        self.check_spans(show, 1, seize(1, 10), Fraction(-1, 4), 0)
        # Once nothing goes on, a stop changes nothing; the first machine may have been seized before.
        self.check_spans(show, 2, seize(1, 11), 0, 4)
        self.check_spans(show, 1, seize(1, 11), 0, 0)
        self.check_spans(show, 1, seize(0, 11), 0, 4)

    def test_a_stopped_machine_that_has_not_come_to_rest_yet(self):
        # People are there up to 3 behind the cue; it would rest at 6, but up to then it is at most at 15/4.
        rules = (zone(0, 4, 5, 0, 1), zone(0, 4, 5, 1, 1))
        show = around(sheet((-1, 0, 1), (0, 3, 3)), machine(0, HALF, (0, UP)), machine(0, 1), rules=rules)
        self.check_spans(show, 0, STOP, 0, Fraction(15, 4))
        self.check_spans(show, 1, STOP, 0, Fraction(15, 4))
        self.check_spans(show, 0, NONE, 0, Fraction(7, 2))
        self.check_spans(show, 1, NONE, Fraction(7, 2), Fraction(7, 2))
        # Stopped at the speed 2 it needs 4 to come to rest, so it rests at 6 from 6 behind the cue on.
        for wait, high in ((4, 5), (5, Fraction(23, 4)), (6, 6), (7, 6), (100, 6)):
            show = around(sheet((-1, 0, 1), (0, wait, wait)), machine(0, HALF, (0, UP)), machine(0, 1), rules=rules)
            self.check_spans(show, 0, STOP, 0, high)
            self.check_spans(show, 1, STOP, 0, high)

    def test_a_zone_before_the_end_of_the_lag(self):
        # As long as people are there, the lag is not over, so the machine goes as without a fault.
        show = around(sheet((-1, 0, 0), (0, 3, 3)), machine(0, HALF, (0, UP)), machine(0, 1),
                      rules=(zone(0, 4, 5, 0, 1),))
        for lag in (3, 4):
            self.check_spans(show, 0, seize(1, lag), 0, Fraction(7, 2))
        self.assertGreater(max(top for _, top in map(span, cases(show, 0, seize(1, Fraction(5, 2))))), Fraction(7, 2))

    def test_a_seized_machine_in_a_zone(self):
        # It may be anywhere up to where it would be then.
        show = around(sheet((-1, 0, 0), (0, 3, 3)), machine(0, HALF, (0, UP)), machine(0, 1),
                      rules=(zone(0, 4, 5, 1, 1),))
        for lag in (0, 2, 9):
            self.check_spans(show, 0, seize(0, lag), 0, Fraction(7, 2))

    def test_out_and_back(self):
        show = around(sheet((-1, 2, 2)), machine(0, 1, (0, OUT)), machine(0, 1), rules=(weigh(0, 1, 1, 0, 0),))
        self.check_spans(show, 0, NONE, 0, 2)
        # Stopped at the speed 2 at 1 it goes on to 3; on the way back at the same place it goes on to -1.
        self.check_spans(show, 0, STOP, -1, 3)


class NothingIsSharedTest(unittest.TestCase):
    def test_the_arguments_stay_as_they_are_and_answers_too(self):
        show = SHOWS["by sisters"]
        kept = copy.deepcopy(show)
        for rule, fault in asked(show):
            first, second = cases(show, rule, fault), cases(show, rule, fault)
            self.assertEqual(first, second)
            self.assertIsNot(first, second)
            first.clear()
            self.assertEqual(cases(show, rule, fault), second)
            for index, (n, region, _) in enumerate(second):
                point = vertices(region, n)[0]
                same = list(point)
                found, again = (moment_of(show, rule, fault, index, point) for _ in range(2))
                self.assertEqual(found, again)
                self.assertIsNot(found[0], again[0])
                self.assertEqual(point, same)
                found[0].clear()
                self.assertEqual(moment_of(show, rule, fault, index, point), again)
        self.assertEqual(show, kept)

    def test_no_case_depends_on_the_other_rules(self):
        show = SHOWS["by the same cue"]
        for rule, fault in asked(show):
            self.assertEqual(cases(show, rule, fault), cases(with_rule(show, show[2][rule]), 0, fault))

    def test_the_functions_are_defined_here(self):
        for function in (cases, moment_of):
            self.assertEqual(function.__module__, "traproom.cases")


if __name__ == "__main__":
    unittest.main()
