import copy
import random
import unittest
from fractions import Fraction
from itertools import permutations

from tests.helpers import (
    fraction, fractions, hurts, plain_table, ratio, ratios, sample_sheet, sheet, slow_bounds, slow_closed, table_of,
    timing_of,
)
from traproom.errors import BadSheet
from traproom.ratios import Ratio
from traproom.sheets import bounds, check_sheet, closed, is_timing, some_times, with_bound

HALF = Fraction(1, 2)
TINY = Fraction(1, 10 ** 30)
# Two hands from 0 on; three cues follow the first one, one of them just 2 later, and one follows a follower.
TREE = sheet((-1, 1, 3), (-1, 0, 10), (0, 2, 2), (0, HALF, 4), (0, 0, 0), (3, 1, Fraction(7, 3)))


def sample_rows(source, size):
    """Rows of a table with some None, in which ways below 0 from a time to itself are neither rare nor common."""
    rows = []
    for i in range(size):
        rows.append([Fraction(source.randint(-2, 6), source.randint(1, 2)) if source.random() < 0.7 else None
                     for _ in range(size)])
        rows[i][i] = source.choice((None, 0, 0, 2, 5))
    return rows


def possible_rows(source, size, full):
    """Rows of a table that some times keep, closed ones; without None if `full`."""
    times = [Fraction(source.randint(0, 9), source.randint(1, 2)) for _ in range(size - 1)] + [Fraction(0)]
    rows = [[a - b + Fraction(source.randint(0, 5), source.randint(1, 3)) for b in times] for a in times]
    if not full:
        rows = [[None if source.random() < 0.4 else entry for entry in row] for row in rows]
    return slow_closed(rows)


class CheckSheetTest(unittest.TestCase):
    def check_bad(self, one):
        with self.assertRaises(BadSheet):
            check_sheet(one)

    def test_sheets(self):
        for one in (TREE, sheet((-1, 0, 0)), sheet((-1, 5, 5)), sheet((-1, 0, 10 ** 9), (0, TINY, TINY))):
            self.assertIsNone(check_sheet(one))

    def test_one_to_eight_cues(self):
        source = random.Random(31)
        for count in range(1, 9):
            for _ in range(10):
                self.assertIsNone(check_sheet(sample_sheet(source, count)))

    def test_none_or_nine_cues(self):
        self.check_bad(())
        self.check_bad(sheet(*[(-1, 0, 1)] * 9))
        self.check_bad(sheet(*[(k - 1, 0, 1) for k in range(9)]))

    def test_the_parent_is_not_earlier(self):
        for count in range(1, 9):
            for k in range(count):
                for parent in range(-3, count + 2):
                    one = sheet(*[(parent if at == k else at - 1, 1, 2) for at in range(count)])
                    if -1 <= parent < k:
                        self.assertIsNone(check_sheet(one))
                    else:
                        self.check_bad(one)

    def test_true_false_and_ratios_are_no_parents(self):
        low, high = ratio(1), ratio(2)
        for k, parent in ((1, False), (2, True), (2, False), (2, Ratio(0)), (2, Ratio(1)), (2, Ratio(-1)),
                          (0, Ratio(-1))):
            cues = [(-1, low, high)] * 3
            cues[k] = (parent, low, high)
            self.check_bad(tuple(cues))

    def test_waits(self):
        for low, high in ((-1, 1), (-TINY, 0), (-2, -1), (1, 0), (TINY, 0), (5, 5 - TINY)):
            self.check_bad(sheet((-1, low, high)))
            self.check_bad(sheet((-1, 0, 1), (0, low, high), (1, 0, 1)))

    def test_a_part_more_or_less(self):
        for k, cue in enumerate(TREE):
            for other in ((), cue[:1], cue[:2], cue[1:], (*cue, ratio(9)), (*cue, None), (cue,)):
                self.check_bad((*TREE[:k], other, *TREE[k + 1:]))

    def test_values_of_other_kinds(self):
        for one in (TREE, sheet((-1, 0, 0)), sheet((-1, 1, 2), (0, 1, 2))):
            for other in hurts(one):
                self.check_bad(other)

    def test_deeply_nested_values(self):
        deep_list, deep_tuple = [], ()
        for _ in range(100000):
            deep_list, deep_tuple = [deep_list], (deep_tuple,)
        for deep in (deep_list, deep_tuple):
            for other in (deep, (deep,), ((deep, ratio(1), ratio(1)),), ((-1, deep, ratio(1)),),
                          ((-1, ratio(1), deep),)):
                self.check_bad(other)


class IsTimingTest(unittest.TestCase):
    def check(self, one, times, expected):
        self.assertIs(is_timing(one, ratios(times)), expected)

    def test_one_cue(self):
        one = sheet((-1, 1, 3))
        for time in (1, 2, 3, Fraction(5, 2), 1 + TINY, 3 - TINY):
            self.check(one, [time], True)
        for time in (0, -1, 4, 1 - TINY, 3 + TINY):
            self.check(one, [time], False)

    def test_the_waits_count_from_the_parents(self):
        self.check(TREE, [1, 0, 3, 3, 1, 5], True)
        self.check(TREE, [3, 10, 5, 7, 3, 7 + Fraction(7, 3)], True)
        self.check(TREE, [2, 5, 4, Fraction(5, 2), 2, 4], True)
        self.check(TREE, [2, 5, 5, Fraction(5, 2), 2, 4], False)
        self.check(TREE, [2, 5, 4, 2, 2, 4], False)
        self.check(TREE, [2, 5, 4, 3, 2, 3], False)
        self.check(TREE, [3, 10, 2, 7, 3, 8], False)

    def test_each_cue_at_the_ends_of_its_window_and_beyond(self):
        source = random.Random(32)
        for _ in range(30):
            one = sample_sheet(source, source.randint(1, 8))
            for k in range(len(one)):
                wide = one[k][1] != one[k][2]
                shares = [Fraction(source.randint(0, 3), 3) for _ in one]
                for share in (0, HALF, 1):
                    self.check(one, timing_of(one, [*shares[:k], share, *shares[k + 1:]]), True)
                if wide:
                    for share in (-TINY, -2, 1 + TINY, 3):
                        self.check(one, timing_of(one, [*shares[:k], share, *shares[k + 1:]]), False)

    def test_too_few_or_too_many_times(self):
        times = [1, 0, 3, 3, 1, 5]
        for count in range(6):
            self.check(TREE, times[:count], False)
        self.check(TREE, [*times, 0], False)
        self.check(TREE, [*times, 5, 5], False)
        self.check(sheet((-1, 0, 5)), [], False)

    def test_the_arguments_stay_as_they_are(self):
        times = ratios([1, 0, 3, 3, 1, 5])
        kept = copy.deepcopy((TREE, times))
        self.assertIs(is_timing(TREE, times), True)
        self.assertEqual((TREE, times), kept)


class TableTest(unittest.TestCase):
    """What the tests of tables have in common."""

    def check_table(self, found, expected):
        if expected is None:
            self.assertIsNone(found)
            return
        self.assertIsInstance(found, list)
        for row in found:
            self.assertIsInstance(row, list)
            for entry in row:
                self.assertTrue(entry is None or isinstance(entry, Ratio))
        self.assertEqual(plain_table(found), expected)

    def check_own_rows(self, found, *others):
        """No row of a table that was found is another one of it, or one of the other tables."""
        rows = [id(row) for table in (found, *others) for row in table]
        self.assertEqual(len(set(rows)), len(rows))
        self.assertEqual(len({id(table) for table in (found, *others)}), 1 + len(others))


class BoundsTest(TableTest):
    def test_one_cue(self):
        self.check_table(bounds(sheet((-1, 1, 3))), [[0, 3], [-1, 0]])
        self.check_table(bounds(sheet((-1, 0, 0))), [[0, 0], [0, 0]])

    def test_one_after_the_other(self):
        self.check_table(bounds(sheet((-1, 1, 3), (0, 2, 7))), [[0, -2, 3], [7, 0, 10], [-1, -3, 0]])

    def test_cues_that_share_a_parent(self):
        self.check_table(bounds(sheet((-1, 1, 3), (-1, 0, 10))), [[0, 3, 3], [9, 0, 10], [-1, 0, 0]])
        found = bounds(sheet((-1, 1, 3), (0, 2, 5), (0, 4, 6)))
        self.check_table(found, [[0, -2, -4, 3], [5, 0, 1, 8], [6, 4, 0, 9], [-1, -3, -5, 0]])

    def test_the_tree(self):
        self.check_table(bounds(TREE), slow_bounds(TREE))

    def test_as_at_the_least_and_greatest_waits(self):
        source = random.Random(33)
        for _ in range(40):
            one = sample_sheet(source, source.randint(1, 8))
            self.check_table(bounds(one), slow_bounds(one))

    def test_the_sheet_stays_and_the_table_belongs_to_the_caller(self):
        kept = copy.deepcopy(TREE)
        first, second = bounds(TREE), bounds(TREE)
        self.check_own_rows(first, second)
        first[0][0] = None
        first.pop()
        self.check_table(second, slow_bounds(TREE))
        self.check_table(bounds(TREE), slow_bounds(TREE))
        self.assertEqual(TREE, kept)


class ClosedTest(TableTest):
    def check(self, rows, expected):
        table = table_of(rows)
        kept, same = copy.deepcopy(table), list(table)
        found = closed(table)
        self.check_table(found, expected)
        self.assertEqual(table, kept)
        self.assertTrue(all(a is b for a, b in zip(table, same)))
        if found is not None:
            self.check_own_rows(found, table)

    def test_small_tables(self):
        self.check([], [])
        self.check([[None]], [[0]])
        self.check([[5]], [[0]])
        self.check([[0]], [[0]])
        self.check([[-TINY]], None)
        self.check([[0, 3], [-1, 0]], [[0, 3], [-1, 0]])
        self.check([[0, 3], [-3, 0]], [[0, 3], [-3, 0]])
        self.check([[0, 3], [-3 - TINY, 0]], None)

    def test_without_any_bound(self):
        self.check([[None] * 3 for _ in range(3)], [[0, None, None], [None, 0, None], [None, None, 0]])

    def test_ways_by_other_times(self):
        self.check([[0, 1, None, 9], [None, 0, 1, None], [None, None, 0, 1], [None, None, None, 0]],
                   [[0, 1, 2, 3], [None, 0, 1, 2], [None, None, 0, 1], [None, None, None, 0]])
        self.check([[0, None, None, 1], [1, 0, None, None], [-4, 1, 0, None], [None, None, 5, 0]],
                   [[0, 7, 6, 1], [1, 0, 7, 2], [-4, 1, 0, -3], [1, 6, 5, 0]])

    def test_entries_on_the_diagonal(self):
        self.check([[7, 2], [3, 7]], [[0, 2], [3, 0]])
        self.check([[None, 2], [3, None]], [[0, 2], [3, 0]])
        for k in range(3):
            rows = [[5] * 3 for _ in range(3)]
            rows[k][k] = -TINY
            self.check(rows, None)
            rows = [[None] * 3 for _ in range(3)]
            rows[k][k] = -1
            self.check(rows, None)

    def test_a_way_to_itself_below_0(self):
        for order in permutations(range(4)):
            rows = [[None] * 4 for _ in range(4)]
            for k in range(4):
                rows[order[k]][order[(k + 1) % 4]] = 3 if k < 3 else -9
            self.assertIsNotNone(closed(table_of(rows)))
            rows[order[3]][order[0]] = -9 - TINY
            self.check(rows, None)

    def test_as_by_all_ways(self):
        source = random.Random(34)
        counts = {True: 0, False: 0}
        for _ in range(150):
            rows = sample_rows(source, source.randint(1, 5))
            expected = slow_closed(rows)
            counts[expected is None] += 1
            self.check(rows, expected)
        self.assertGreater(min(counts.values()), 30)

    def test_what_is_closed_stays_the_same(self):
        source = random.Random(35)
        for _ in range(30):
            rows = possible_rows(source, 4, False)
            self.check(rows, rows)

    def test_a_table_of_ten_times(self):
        rows = [[k + 1 if j == (k + 1) % 10 else None for j in range(10)] for k in range(10)]
        self.check(rows, [[sum((i + s) % 10 + 1 for s in range((j - i) % 10)) for j in range(10)] for i in range(10)])


class WithBoundTest(TableTest):
    def check(self, rows, i, j, c):
        """Compare with the table that has the condition as an entry, closed again."""
        table = table_of(rows)
        kept, same = copy.deepcopy(table), list(table)
        found = with_bound(table, i, j, ratio(c))
        changed = [list(row) for row in rows]
        changed[i][j] = c if rows[i][j] is None else min(c, rows[i][j])
        self.check_table(found, slow_closed(changed))
        self.assertEqual(table, kept)
        self.assertTrue(all(a is b for a, b in zip(table, same)))
        if found is not None:
            self.check_own_rows(found, table)
        return found

    def test_nothing_changes(self):
        rows = [[0, 3], [-1, 0]]
        for i, j, c in ((0, 1, 3), (0, 1, 4), (1, 0, -1), (1, 0, 0), (0, 0, 0), (1, 1, 7)):
            self.check_table(self.check(rows, i, j, c), rows)

    def test_other_entries_change(self):
        rows = [[0, -2, 3], [7, 0, 10], [-1, -3, 0]]
        self.check_table(self.check(rows, 1, 2, 5), [[0, -2, 3], [4, 0, 5], [-1, -3, 0]])
        self.check_table(self.check(rows, 1, 0, 2), [[0, -2, 3], [2, 0, 5], [-1, -3, 0]])

    def test_just_possible_and_impossible(self):
        rows = [[0, 3], [-1, 0]]
        self.check_table(self.check(rows, 0, 1, 1), [[0, 1], [-1, 0]])
        self.assertIsNone(self.check(rows, 0, 1, 1 - TINY))
        self.check_table(self.check(rows, 1, 0, -3), [[0, 3], [-3, 0]])
        self.assertIsNone(self.check(rows, 1, 0, -3 - TINY))
        self.assertIsNone(self.check(rows, 0, 0, -TINY))
        self.assertIsNone(self.check(rows, 1, 1, -5))

    def test_without_bounds_before(self):
        rows = [[0, None, None], [None, 0, 2], [None, None, 0]]
        self.check_table(self.check(rows, 0, 1, -4), [[0, -4, -2], [None, 0, 2], [None, None, 0]])
        self.check_table(self.check(rows, 2, 1, -2), [[0, None, None], [None, 0, 2], [None, -2, 0]])
        self.assertIsNone(self.check(rows, 2, 1, -2 - TINY))

    def test_as_closed_again(self):
        source = random.Random(36)
        impossible = 0
        for _ in range(200):
            size = source.randint(2, 5)
            rows = possible_rows(source, size, source.random() < 0.6)
            i, j = source.randrange(size), source.randrange(size)
            c = Fraction(source.randint(-9, 9), source.randint(1, 3))
            impossible += self.check(rows, i, j, c) is None
        self.assertGreater(impossible, 30)
        self.assertLess(impossible, 170)

    def test_the_new_table_belongs_to_the_caller(self):
        table = bounds(TREE)
        first, second = with_bound(table, 0, 1, Ratio(0)), with_bound(table, 0, 1, Ratio(0))
        expected = plain_table(second)
        self.check_own_rows(first, second, table)
        first[2][3] = None
        first.pop()
        self.assertEqual(plain_table(second), expected)
        self.assertEqual(plain_table(table), slow_bounds(TREE))


class SomeTimesTest(TableTest):
    def check(self, rows, expected):
        table = table_of(rows)
        kept = copy.deepcopy(table)
        found = some_times(table)
        self.assertIsInstance(found, list)
        self.assertTrue(all(isinstance(time, Ratio) for time in found))
        self.assertEqual(fractions(found), expected)
        self.assertEqual(table, kept)

    def test_small_tables(self):
        self.check([[0]], [0])
        self.check([[0, 3], [-1, 0]], [3, 0])
        self.check([[0, -3], [5, 0]], [-3, 0])

    def test_three_times(self):
        self.check([[0, 0, 4], [1, 0, 5], [-1, 0, 0]], [4, 5, 0])
        self.check([[0, 2, 3], [-2, 0, 1], [-1, 1, 0]], [3, 1, 0])
        self.check([[0, -1, -3], [1, 0, -2], [9, 8, 0]], [-3, -2, 0])

    def test_of_sheets(self):
        self.check(slow_bounds(TREE), [3, 10, 5, 7, 3, 7 + Fraction(7, 3), 0])

    def test_one_time_after_the_other_is_the_greatest_one(self):
        source = random.Random(37)
        for _ in range(80):
            size = source.randint(1, 5)
            rows = possible_rows(source, size, True)
            expected, left = [], [list(row) for row in rows]
            for i in range(size - 1):
                greatest = left[i][-1]
                expected.append(greatest)
                left[-1][i] = -greatest
                left = slow_closed(left)
            self.check(rows, [*expected, 0])
            for i, a in enumerate([*expected, 0]):
                for j, b in enumerate([*expected, 0]):
                    self.assertLessEqual(a - b, rows[i][j])

    def test_they_are_a_timing(self):
        source = random.Random(38)
        for _ in range(30):
            one = sample_sheet(source, source.randint(1, 8))
            found = some_times(bounds(one))
            self.assertEqual(fraction(found.pop()), 0)
            self.assertIs(is_timing(one, found), True)

    def test_the_list_belongs_to_the_caller(self):
        table = bounds(TREE)
        first, second = some_times(table), some_times(table)
        first.clear()
        self.assertEqual(len(second), 7)
        self.assertEqual(len(some_times(table)), 7)


class PlaceTest(unittest.TestCase):
    def test_the_functions_are_defined_here(self):
        for function in (check_sheet, is_timing, bounds, closed, with_bound, some_times):
            self.assertEqual(function.__module__, "traproom.sheets")


if __name__ == "__main__":
    unittest.main()
