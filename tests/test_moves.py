import copy
import random
import unittest
from fractions import Fraction

from tests.helpers import (
    fraction, fractions, hurts, move, plain_move, ratio, sample_move, slow_position, slow_speed, slow_stopped,
)
from traproom.errors import BadMove
from traproom.moves import check_move, greatest_speed, length, pieces, position, speed, stopped, way
from traproom.ratios import Ratio

HALF = Fraction(1, 2)
# Up to the speed 4 in 2, on with it for 3, down to 0 in 4: the way is 4 + 12 + 8.
LIFT = move((2, 2), (3, 0), (4, -1))
# To 1 and back beyond 0 to -3: the speeds are 2 at 1, 0 at 2, -2 at 3, -2 at 4, 0 at 5.
BACK = move((1, 2), (2, -2), (1, 0), (1, 2))
# It rests at first, in the middle and at the end.
RESTS = move((1, 0), (1, 1), (1, -1), (2, 0), (1, -3), (1, 3))
STILL = move((5, 0))


def samples(seed, count):
    source = random.Random(seed)
    for _ in range(count):
        yield source, sample_move(source, source.randint(1, 6))


def times_of(one):
    """The ends of all stretches, times within them, and times before 0 and beyond the length."""
    times, end = [Fraction(-7, 3), Fraction(-1, 10 ** 20), Fraction(0)], Fraction(0)
    for duration, _ in plain_move(one):
        times += [end + duration / 7, end + duration / 2, end + duration * Fraction(9, 10), end + duration]
        end += duration
    return times + [end + Fraction(1, 10 ** 20), end + 1, end + 100]


class CheckMoveTest(unittest.TestCase):
    def check_bad(self, one):
        with self.assertRaises(BadMove):
            check_move(one)

    def test_moves(self):
        for one in (LIFT, BACK, RESTS, STILL, move((Fraction(1, 10 ** 9), 0)), move((1, 10 ** 9), (1, -10 ** 9))):
            self.assertIsNone(check_move(one))

    def test_one_to_six_pairs(self):
        source = random.Random(21)
        for count in range(1, 7):
            for _ in range(10):
                self.assertIsNone(check_move(sample_move(source, count)))

    def test_too_few_or_too_many_pairs(self):
        self.check_bad(())
        self.check_bad(move(*[(1, 0)] * 7))
        self.check_bad(move(*[(1, 0)] * 6, (1, 1), (1, -1)))
        self.check_bad(move(*[(1, 0)] * 500))

    def test_a_duration_that_is_not_greater_than_0(self):
        for duration in (0, -1, Fraction(-1, 3)):
            self.check_bad(move((duration, 0)))
            self.check_bad(move((1, 0), (duration, 5)))
            self.check_bad(move((duration, 3), (1, -3 * duration)))
            self.check_bad(move((1, 2), (duration, 0), (1, -2)))

    def test_the_last_speed_is_not_0(self):
        self.check_bad(move((1, 1)))
        self.check_bad(move((1, -1)))
        self.check_bad(move((2, 2), (3, 0), (4, Fraction(-999, 1000))))
        self.check_bad(move((1, 1), (1, -1), (1, Fraction(1, 10 ** 30))))
        self.check_bad(LIFT[:2])
        self.check_bad(LIFT[1:])

    def test_a_part_more_or_less(self):
        one = ratio(1)
        for k in range(3):
            for other in ((), LIFT[k][:1], LIFT[k][1:], (*LIFT[k], one), (*LIFT[k], None)):
                self.check_bad((*LIFT[:k], other, *LIFT[k + 1:]))

    def test_values_of_other_kinds(self):
        for one in (LIFT, BACK, RESTS, STILL):
            for other in hurts(one):
                self.check_bad(other)

    def test_deeply_nested_values(self):
        deep_list, deep_tuple = [], ()
        for _ in range(100000):
            deep_list, deep_tuple = [deep_list], (deep_tuple,)
        for deep in (deep_list, deep_tuple):
            for other in (deep, (deep,), ((ratio(1), deep),), ((deep, ratio(0)),)):
                self.check_bad(other)


class PiecesTest(unittest.TestCase):
    def check(self, one, expected):
        found = pieces(one)
        self.assertIsInstance(found, list)
        for piece in found:
            self.assertIsInstance(piece, tuple)
            self.assertTrue(all(isinstance(number, Ratio) for number in piece))
        self.assertEqual([fractions(piece) for piece in found], expected)

    def test_pieces(self):
        self.check(LIFT, [[0, 2, 0, 0, 2], [2, 5, 4, 4, 0], [5, 9, 16, 4, -1]])
        self.check(BACK, [[0, 1, 0, 0, 2], [1, 3, 1, 2, -2], [3, 4, 1, -2, 0], [4, 5, -1, -2, 2]])
        self.check(STILL, [[0, 5, 0, 0, 0]])
        self.check(RESTS, [[0, 1, 0, 0, 0], [1, 2, 0, 0, 1], [2, 3, HALF, 1, -1], [3, 5, 1, 0, 0], [5, 6, 1, 0, -3],
                           [6, 7, -HALF, -3, 3]])

    def test_as_by_sums(self):
        for _, one in samples(22, 60):
            expected, start = [], Fraction(0)
            for duration, acceleration in plain_move(one):
                end = start + duration
                expected.append([start, end, slow_position(one, start), slow_speed(one, start), acceleration])
                start = end
            self.check(one, expected)

    def test_the_list_belongs_to_the_caller(self):
        first, second = pieces(LIFT), pieces(LIFT)
        first.clear()
        self.assertEqual(len(second), 3)
        self.assertEqual(len(pieces(LIFT)), 3)


class LengthAndWayTest(unittest.TestCase):
    def check(self, one, long, far):
        self.assertIsInstance(length(one), Ratio)
        self.assertIsInstance(way(one), Ratio)
        self.assertEqual((fraction(length(one)), fraction(way(one))), (long, far))

    def test_length_and_way(self):
        self.check(LIFT, 9, 24)
        self.check(BACK, 5, -2)
        self.check(STILL, 5, 0)
        self.check(RESTS, 7, -2)
        self.check(move((Fraction(1, 3), 3), (HALF, -2)), Fraction(5, 6), Fraction(1, 6) + Fraction(1, 4))

    def test_as_by_sums(self):
        for _, one in samples(23, 60):
            long = sum(duration for duration, _ in plain_move(one))
            self.check(one, long, slow_position(one, long))


class PositionTest(unittest.TestCase):
    def check(self, one, time, far, fast):
        at = ratio(time)
        self.assertIsInstance(position(one, at), Ratio)
        self.assertIsInstance(speed(one, at), Ratio)
        self.assertEqual((fraction(position(one, at)), fraction(speed(one, at))), (far, fast))

    def test_before_0(self):
        for one in (LIFT, BACK, RESTS, STILL):
            for time in (-10 ** 9, -1, Fraction(-1, 10 ** 30)):
                self.check(one, time, 0, 0)

    def test_at_the_ends_of_stretches(self):
        for time, far, fast in ((0, 0, 0), (2, 4, 4), (5, 16, 4), (9, 24, 0)):
            self.check(LIFT, time, far, fast)
        for time, far, fast in ((0, 0, 0), (1, 1, 2), (3, 1, -2), (4, -1, -2), (5, -2, 0)):
            self.check(BACK, time, far, fast)

    def test_within_stretches(self):
        for time, far, fast in ((1, 1, 2), (HALF, Fraction(1, 4), 1), (3, 8, 4), (7, 22, 2)):
            self.check(LIFT, time, far, fast)
        for time, far, fast in ((2, 2, 0), (Fraction(7, 2), 0, -2), (Fraction(9, 2), Fraction(-7, 4), -1)):
            self.check(BACK, time, far, fast)

    def test_beyond_the_length(self):
        for time in (9 + Fraction(1, 10 ** 30), 10, 10 ** 9):
            self.check(LIFT, time, 24, 0)
        for time in (5 + Fraction(1, 10 ** 30), 6, 10 ** 9):
            self.check(BACK, time, -2, 0)

    def test_as_by_sums(self):
        for _, one in samples(24, 60):
            for time in times_of(one):
                self.check(one, time, slow_position(one, time), slow_speed(one, time))


class StoppedTest(unittest.TestCase):
    def check(self, one, brake, at, time, expected):
        found = stopped(one, ratio(brake), ratio(at), ratio(time))
        self.assertIsInstance(found, Ratio)
        self.assertEqual(fraction(found), expected)

    def test_before_the_stop_and_at_it(self):
        for at in times_of(LIFT):
            for time in times_of(LIFT):
                if time <= at:
                    self.check(LIFT, 3, at, time, slow_position(LIFT, time))

    def test_behind_the_stop(self):
        # At 3 the position is 8 and the speed 4: with a brake of 2 the machine rests 2 later, 4 further on.
        for time, expected in ((3, 8), (Fraction(7, 2), 8 + 2 - Fraction(1, 4)), (4, 11), (5, 12), (6, 12), (1000, 12)):
            self.check(LIFT, 2, 3, time, expected)

    def test_with_a_speed_below_0(self):
        # At 3 the position is 1 and the speed -2: with a brake of 1 the machine rests 2 later, at -1.
        for time, expected in ((3, 1), (4, -HALF), (Fraction(9, 2), Fraction(-7, 8)), (5, -1), (6, -1), (1000, -1)):
            self.check(BACK, 1, 3, time, expected)

    def test_with_the_speed_0(self):
        for brake in (Fraction(1, 100), 1, 50):
            for time in (0, 1, 5, 100):
                self.check(LIFT, brake, 0, time, 0)
                self.check(RESTS, brake, HALF, time, 0)
            for time in (2, Fraction(5, 2), 3, 100):
                self.check(BACK, brake, 2, time, 2)
            for time in (4, 6, 7, 100):
                self.check(RESTS, brake, 4, time, 1)

    def test_before_0_and_beyond_the_length(self):
        for at in (-5, -1, Fraction(-1, 10 ** 30)):
            for time in (-6, -1, 0, 1, 4, 9, 50):
                self.check(LIFT, 1, at, time, 0)
                self.check(BACK, 1, at, time, 0)
        for at in (9, 10, 99):
            for time in (9, 10, 98, 99, 100):
                self.check(LIFT, 1, at, time, 24)
                self.check(BACK, 1, at, time, -2)

    def test_a_weak_brake_brings_it_farther_than_the_move(self):
        self.check(LIFT, Fraction(1, 10), 5, 45, 16 + 80)
        self.check(LIFT, Fraction(1, 10), 5, 44, 16 + 80 - Fraction(1, 20))
        self.check(LIFT, Fraction(1, 10), 5, 46, 16 + 80)

    def test_as_by_a_cut_move(self):
        for source, one in samples(25, 40):
            brake = Fraction(source.randint(1, 6), source.randint(1, 3))
            for at in times_of(one):
                rest = at + abs(slow_speed(one, at)) / brake
                for time in (at - 1, at, at + Fraction(1, 9), at + 1, (at + rest) / 2, rest, rest + 1, rest + 50):
                    self.check(one, brake, at, time, slow_stopped(one, brake, at, time))


class GreatestSpeedTest(unittest.TestCase):
    def check(self, one, expected):
        found = greatest_speed(one)
        self.assertIsInstance(found, Ratio)
        self.assertEqual(fraction(found), expected)

    def test_greatest_speed(self):
        self.check(LIFT, 4)
        self.check(BACK, 2)
        self.check(RESTS, 3)
        self.check(STILL, 0)
        self.check(move((1, -5), (1, 8), (1, -3)), 5)
        self.check(move((1, 2), (1, Fraction(-9, 2)), (1, Fraction(5, 2))), Fraction(5, 2))

    def test_as_at_all_ends(self):
        for _, one in samples(26, 60):
            self.check(one, max(abs(slow_speed(one, time)) for time in times_of(one)))


class NothingIsModifiedTest(unittest.TestCase):
    def test_the_arguments_stay_as_they_are(self):
        kept = copy.deepcopy(BACK)
        at, time, brake = ratio(3), ratio(4), ratio(1)
        for _ in range(2):
            check_move(BACK)
            pieces(BACK)
            greatest_speed(BACK)
            self.assertEqual(fraction(position(BACK, time)), -1)
            self.assertEqual(fraction(speed(BACK, time)), -2)
            self.assertEqual(fraction(stopped(BACK, brake, at, time)), -HALF)
            self.assertEqual(fraction(way(BACK)), -2)
            self.assertEqual(fraction(length(BACK)), 5)
        self.assertEqual(BACK, kept)
        self.assertEqual(fractions([at, time, brake]), [3, 4, 1])


class PlaceTest(unittest.TestCase):
    def test_the_functions_are_defined_here(self):
        for function in (check_move, pieces, length, way, position, speed, stopped, greatest_speed):
            self.assertEqual(function.__module__, "traproom.moves")


if __name__ == "__main__":
    unittest.main()
