import copy
import random
import unittest
from fractions import Fraction

from tests.helpers import box, fractions, plain, ratio, ratios, region, slow_vertices
from traproom.ratios import Ratio
from traproom.regions import is_empty, is_inside, solve, vertices

EIGHT = [[x, y, z] for x in (0, 1) for y in (0, 1) for z in (0, 1)]


def sample_region(source, n, count):
    """A region of forms with small numbers, so that many of them meet in one point or are parallel."""
    rows = []
    for _ in range(count):
        row = [Fraction(source.randint(-2, 2), source.randint(1, 2)) for _ in range(n)]
        rows.append([*row, Fraction(source.randint(-1, 5), source.randint(1, 3))])
    return region(*rows)


class InsideTest(unittest.TestCase):
    def test_inside_outside_and_edge(self):
        square = box(2)
        self.assertIs(is_inside(square, ratios([Fraction(1, 2), Fraction(1, 3)])), True)
        for point in ([0, 0], [1, 1], [0, Fraction(1, 2)], [Fraction(2, 3), 1]):
            self.assertIs(is_inside(square, ratios(point)), True)
        for point in ([Fraction(-1, 10 ** 30), 0], [0, Fraction(10 ** 30 + 1, 10 ** 30)], [2, 2], [-1, 5]):
            self.assertIs(is_inside(square, ratios(point)), False)

    def test_forms_with_fractions(self):
        half = region([Fraction(1, 3), Fraction(-1, 7), Fraction(-1, 21)])
        self.assertIs(is_inside(half, ratios([Fraction(1, 7), 0])), True)
        self.assertIs(is_inside(half, ratios([Fraction(1, 7), Fraction(1, 1000)])), False)
        self.assertIs(is_inside(half, ratios([1, 2])), True)
        self.assertIs(is_inside(half, ratios([1, Fraction(2001, 1000)])), False)

    def test_each_form_counts(self):
        for k in range(6):
            point = ratios([Fraction(1, 2)] * 3)
            point[k // 2] = ratio(-1 if k % 2 == 0 else 2)
            self.assertIs(is_inside(box(3), point), False)

    def test_no_variables(self):
        self.assertIs(is_inside((), []), True)
        self.assertIs(is_inside(region([0]), []), True)
        self.assertIs(is_inside(region([3], [Fraction(1, 2)]), []), True)
        self.assertIs(is_inside(region([3], [Fraction(-1, 2)]), []), False)

    def test_no_forms(self):
        for point in ([], [5], [-1, 7], [1, -2, 3]):
            self.assertIs(is_inside((), ratios(point)), True)

    def test_forms_without_coefficients(self):
        self.assertIs(is_inside(region([0, 0, 0]), ratios([4, 5])), True)
        self.assertIs(is_inside(region([0, 0, -1]), ratios([4, 5])), False)

    def test_the_arguments_stay_as_they_are(self):
        square = box(2)
        point = ratios([Fraction(1, 2), 3])
        kept = (copy.deepcopy(square), copy.deepcopy(point))
        is_inside(square, point)
        self.assertEqual((square, point), kept)


class SolveTest(unittest.TestCase):
    def check(self, rows, constants, expected):
        found = solve([ratios(row) for row in rows], ratios(constants))
        if expected is None:
            self.assertIsNone(found)
        else:
            self.assertIsInstance(found, list)
            self.assertEqual(fractions(found), expected)

    def test_one_solution(self):
        self.check([[2]], [6], [3])
        self.check([[-3]], [2], [Fraction(-2, 3)])
        self.check([[1, 1], [1, -1]], [5, 1], [3, 2])
        self.check([[0, 2], [3, 0]], [1, 1], [Fraction(1, 3), Fraction(1, 2)])
        self.check([[0, 0, 1], [1, 0, 0], [0, -1, 0]], [7, 8, 9], [8, -9, 7])
        self.check([[Fraction(1, 2), Fraction(1, 3)], [Fraction(1, 4), 1]], [0, 1], [Fraction(-4, 5), Fraction(6, 5)])

    def test_the_solution_zero(self):
        self.check([[1, 2], [3, 4]], [0, 0], [0, 0])

    def test_no_solution(self):
        self.check([[1, 1], [1, 1]], [1, 2], None)
        self.check([[0]], [1], None)
        self.check([[1], [1]], [1, 2], None)
        self.check([[1, 2], [3, 4], [4, 6]], [5, 6, 12], None)

    def test_more_than_one_solution(self):
        self.check([[1, 1], [2, 2]], [1, 2], None)
        self.check([[0]], [0], None)
        self.check([[0, 1], [0, 2]], [3, 6], None)
        self.check([[1, 0, 0], [0, 1, 1], [1, 1, 1]], [1, 2, 3], None)

    def test_fewer_equations_than_unknowns(self):
        self.check([[1, 1]], [1], None)
        self.check([[1, 0, 0], [0, 1, 0]], [1, 2], None)
        self.check([[0, 0]], [1], None)

    def test_more_equations_than_unknowns(self):
        self.check([[1], [2], [0]], [4, 8, 0], [4])
        self.check([[1], [2], [0]], [4, 8, 1], None)
        self.check([[0, 0], [1, 1], [1, 1], [1, -1]], [0, 3, 3, 1], [2, 1])
        self.check([[1, 1], [1, -1], [5, 7]], [3, 1, 17], [2, 1])
        self.check([[1, 1], [1, -1], [5, 7]], [3, 1, 18], None)

    def test_equations_that_are_sums_of_others(self):
        self.check([[1, 2, 3], [0, 1, 4], [1, 3, 7], [5, 6, 0]], [14, 14, 28, 17], [1, 2, 3])
        self.check([[1, 2, 3], [0, 1, 4], [1, 3, 7]], [14, 14, 28], None)
        self.check([[1, 2, 3], [0, 1, 4], [1, 3, 7]], [14, 14, 29], None)

    def test_no_unknowns(self):
        self.check([[]], [0], [])
        self.check([[], []], [0, 0], [])
        self.check([[], []], [0, 1], None)

    def test_great_numbers(self):
        great = 7 ** 3000
        self.check([[great, 1], [1, Fraction(1, great)]], [great, 1], None)
        self.check([[great, 1], [1, 1]], [great, 1], [1, 0])
        self.check([[great, 1], [1, 0]], [0, Fraction(1, great)], [Fraction(1, great), -1])

    def test_many_equations(self):
        source = random.Random(5)
        for _ in range(400):
            count = source.randint(1, 5)
            point = [Fraction(source.randint(-5, 5), source.randint(1, 5)) for _ in range(count)]
            rows = []
            for k in range(count):
                # Rows below a diagonal without 0, turned by sums of rows: there is just one solution.
                rows.append([source.randint(-3, 3) if j < k else int(j == k) * source.choice((-2, 3, 5))
                             for j in range(count)])
            for _ in range(6):
                a, b = source.randrange(count), source.randrange(count)
                if a != b:
                    rows[a] = [x + 2 * y for x, y in zip(rows[a], rows[b])]
            rows = rows + [[x - y for x, y in zip(rows[0], rows[-1])]]
            source.shuffle(rows)
            constants = [sum(a * x for a, x in zip(row, point)) for row in rows]
            self.check(rows, constants, point)
            constants[source.randrange(len(rows))] += 1
            self.check_keeps_or_none(rows, constants)

    def check_keeps_or_none(self, rows, constants):
        found = solve([ratios(row) for row in rows], ratios(constants))
        if found is not None:
            for row, constant in zip(rows, constants):
                self.assertEqual(sum(a * x for a, x in zip(row, fractions(found))), constant)

    def test_the_lists_stay_as_they_are(self):
        rows = [ratios([0, Fraction(2, 3)]), ratios([3, 1]), ratios([3, Fraction(5, 3)])]
        constants = ratios([1, 2, 3])
        kept = (copy.deepcopy(rows), copy.deepcopy(constants), list(rows))
        found = solve(rows, constants)
        self.assertEqual(fractions(found), [Fraction(1, 6), Fraction(3, 2)])
        self.assertEqual((rows, constants), kept[:2])
        for row, same in zip(rows, kept[2]):
            self.assertIs(row, same)

    def test_the_solution_belongs_to_the_caller(self):
        rows = [ratios([1, 0]), ratios([0, 1])]
        constants = ratios([4, 5])
        found = solve(rows, constants)
        self.assertIsNot(found, constants)
        found.append("changed")
        found[0] = Ratio(9)
        self.assertEqual(fractions(solve(rows, constants)), [4, 5])
        self.assertEqual(fractions(constants), [4, 5])


class VerticesTest(unittest.TestCase):
    def check(self, forms, n, expected):
        found = vertices(forms, n)
        self.assertIsInstance(found, list)
        for point in found:
            self.assertIsInstance(point, list)
            self.assertEqual(len(point), n)
        self.assertEqual(plain(found), expected)

    def test_no_variables(self):
        self.check((), 0, [[]])
        self.check(region([0]), 0, [[]])
        self.check(region([2], [3]), 0, [[]])
        self.check(region([2], [-3]), 0, [])

    def test_one_variable(self):
        self.check(box(1, Fraction(-1, 2), 3), 1, [[Fraction(-1, 2)], [3]])
        self.check(region([2, -4], [-3, 6]), 1, [[2]])
        self.check(region([1, 5], [1, 3], [-1, 7]), 1, [[-3], [7]])

    def test_two_variables(self):
        self.check(box(2), 2, [[0, 0], [0, 1], [1, 0], [1, 1]])
        self.check(region([1, 0, 0], [0, 1, 0], [-2, -3, 1]), 2, [[0, 0], [0, Fraction(1, 3)], [Fraction(1, 2), 0]])

    def test_three_variables(self):
        self.check(box(3), 3, EIGHT)
        pyramid = region([0, 0, 1, 0], [1, 0, -1, 1], [-1, 0, -1, 1], [0, 1, -1, 1], [0, -1, -1, 1])
        self.check(pyramid, 3, [[-1, -1, 0], [-1, 1, 0], [0, 0, 1], [1, -1, 0], [1, 1, 0]])

    def test_ascending_with_fractions_and_signs(self):
        cross = region([1, 1, 1], [1, -1, 1], [-1, 1, 1], [-1, -1, 1])
        self.check(cross, 2, [[-1, 0], [0, -1], [0, 1], [1, 0]])
        near = region([1, 0, Fraction(1, 3)], [-1, 0, Fraction(-333, 1000)], [0, 1, 0], [0, -1, 1])
        self.check(near, 2, [[Fraction(-1, 3), 0], [Fraction(-1, 3), 1],
                             [Fraction(-333, 1000), 0], [Fraction(-333, 1000), 1]])

    def test_empty_regions(self):
        self.check(region([1, -2], [-1, 1]), 1, [])
        self.check(box(2) + region([1, 1, -3]), 2, [])
        self.check(box(3) + region([-1, -1, -1, Fraction(-1, 100)]), 3, [])

    def test_one_point_only(self):
        self.check(box(3, 2, 2), 3, [[2, 2, 2]])
        self.check(box(2) + region([-1, -1, 0]), 2, [[0, 0]])

    def test_regions_without_bounds(self):
        self.check((), 1, [])
        self.check((), 3, [])
        self.check(region([1, 0]), 1, [[0]])
        self.check(region([1, 0, 0]), 2, [])
        self.check(region([1, 0, 0], [-1, 0, 1]), 2, [])
        self.check(region([1, 0, 0], [0, 1, 0]), 2, [[0, 0]])
        self.check(region([1, 0, 0], [0, 1, 0], [-1, 0, 5]), 2, [[0, 0], [5, 0]])
        self.check(region([1, 0, 0, 0], [0, 1, 0, 0], [0, 0, 1, 2]), 3, [[0, 0, -2]])
        self.check(region([1, 0, 0, 0], [0, 1, 0, 0]), 3, [])

    def test_the_same_form_twice(self):
        self.check(box(2) + box(2), 2, [[0, 0], [0, 1], [1, 0], [1, 1]])
        self.check(box(3) + box(3), 3, EIGHT)
        self.check(box(1) + region([2, 0], [Fraction(-1, 3), Fraction(1, 3)]), 1, [[0], [1]])
        self.check(region([1, 1, 0], [1, 1, 0]), 2, [])

    def test_several_forms_through_one_vertex(self):
        self.check(box(2) + region([1, 1, 0], [1, 2, 0], [-1, -1, 2]), 2, [[0, 0], [0, 1], [1, 0], [1, 1]])

    def test_forms_without_coefficients(self):
        self.check(box(2) + region([0, 0, 0], [0, 0, 4]), 2, [[0, 0], [0, 1], [1, 0], [1, 1]])
        self.check(box(2) + region([0, 0, Fraction(-1, 9)]), 2, [])
        self.check(region([0, 0]), 1, [])

    def test_twenty_four_forms(self):
        self.check(box(3) * 4, 3, EIGHT)
        corners = box(3, -1, 1)
        cut = region(*[[x, y, z, Fraction(5, 2)] for x in (-1, 1) for y in (-1, 1) for z in (-1, 1)])
        far = region(*[[x, y, 0, 9] for x in (-1, 1) for y in (-2, 0, 1, 2, 3)])
        many = corners + cut + far
        self.assertEqual(len(many), 24)
        self.check(many, 3, slow_vertices(many, 3))
        self.assertEqual(len(vertices(many, 3)), 24)

    def test_as_by_determinants(self):
        source = random.Random(6)
        for _ in range(150):
            n = source.randint(0, 3)
            forms = sample_region(source, n, source.randint(0, 8))
            self.check(forms, n, slow_vertices(forms, n))

    def test_bounded_ones_as_by_determinants(self):
        source = random.Random(7)
        for _ in range(100):
            n = source.randint(1, 3)
            forms = box(n, -2, 2) + sample_region(source, n, source.randint(0, 5))
            self.check(forms, n, slow_vertices(forms, n))

    def test_great_numbers(self):
        great = 3 ** 5000
        self.check(region([great, -1], [-1, 1]), 1, [[Fraction(1, great)], [1]])
        self.check(box(2, -great, Fraction(1, great)), 2,
                   [[x, y] for x in (-great, Fraction(1, great)) for y in (-great, Fraction(1, great))])

    def test_the_arguments_stay_as_they_are(self):
        forms = box(3)
        kept = copy.deepcopy(forms)
        vertices(forms, 3)
        is_empty(forms, 3)
        self.assertEqual(forms, kept)

    def test_the_result_belongs_to_the_caller(self):
        for n, forms in ((0, ()), (2, box(2)), (3, box(3))):
            first = vertices(forms, n)
            expected = plain(first)
            second = vertices(forms, n)
            first[0].append("changed")
            first.append("changed")
            self.assertEqual(plain(second), expected)
            self.assertEqual(plain(vertices(forms, n)), expected)

    def test_no_two_vertices_share_a_list(self):
        found = vertices(box(3), 3)
        self.assertEqual(len({id(point) for point in found}), 8)


class EmptyTest(unittest.TestCase):
    def test_not_empty(self):
        self.assertIs(is_empty((), 0), False)
        self.assertIs(is_empty(region([0]), 0), False)
        self.assertIs(is_empty(box(1), 1), False)
        self.assertIs(is_empty(box(2), 2), False)
        self.assertIs(is_empty(box(3), 3), False)

    def test_just_one_point(self):
        self.assertIs(is_empty(box(3, 5, 5), 3), False)
        self.assertIs(is_empty(box(2) + region([1, 1, -2]), 2), False)

    def test_empty(self):
        self.assertIs(is_empty(region([-1]), 0), True)
        self.assertIs(is_empty(region([4], [Fraction(-1, 4)]), 0), True)
        self.assertIs(is_empty(box(1, 1, 0), 1), True)
        self.assertIs(is_empty(box(2) + region([1, 1, Fraction(-2001, 1000)]), 2), True)
        self.assertIs(is_empty(box(3) + region([0, 0, 0, -1]), 3), True)

    def test_twenty_four_forms(self):
        self.assertIs(is_empty(box(3) * 4, 3), False)
        self.assertIs(is_empty(box(3) * 3 + region(*[[-1, -1, -1, -k] for k in range(1, 7)]), 3), True)

    def test_empty_exactly_without_vertices(self):
        source = random.Random(8)
        counts = {True: 0, False: 0}
        for _ in range(200):
            n = source.randint(0, 3)
            forms = box(n, -1, 1) + sample_region(source, n, source.randint(0, 6))
            empty = is_empty(forms, n)
            counts[empty] += 1
            self.assertIs(empty, slow_vertices(forms, n) == [])
        self.assertGreater(min(counts.values()), 20)

    def test_answers_do_not_depend_on_earlier_calls(self):
        full, void = box(2), box(2) + region([1, 1, -3])
        for _ in range(2):
            self.assertIs(is_empty(full, 2), False)
            self.assertIs(is_empty(void, 2), True)
            self.assertEqual(len(vertices(full, 2)), 4)
            self.assertEqual(vertices(void, 2), [])


class PlaceTest(unittest.TestCase):
    def test_the_functions_are_defined_here(self):
        for function in (is_inside, solve, vertices, is_empty):
            self.assertEqual(function.__module__, "traproom.regions")


if __name__ == "__main__":
    unittest.main()
