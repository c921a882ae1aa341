import copy
import random
import unittest
from fractions import Fraction
from itertools import product

from tests.helpers import (
    box, form_value, fraction, fractions, quadratic, ratio, ratios, region, slow_evidence, slow_least, slow_value,
)
from traproom.quadratics import evidence, holds, least, value
from traproom.ratios import Ratio

HALF = Fraction(1, 2)
# What is no evidence at all; values of all the kinds that may be told.
OTHERS = [None, True, False, 0, 1, -1, "", "point", (), ((), "point"), (((), "point"),), Ratio(0), [[]], [()], [None],
          [True], [0], ["point"], [Ratio(1)], [[[]]], [((),)], [["point"]], [((), "point", None)]]


def sample_quadratic(source, n):
    squares = {(i, j): Fraction(source.randint(-3, 3), source.randint(1, 2)) for i in range(n) for j in range(i, n)}
    if source.random() < 0.3:
        squares = {pair: Fraction(0) for pair in squares if pair[0] == pair[1]} | {
            pair: x for pair, x in squares.items() if pair[0] != pair[1]}
    return quadratic(squares, *[Fraction(source.randint(-4, 4), source.randint(1, 3)) for _ in range(n + 1)])


def sample_region(source, n):
    """A bounded region, often empty or flat, often with the same form or a multiple of it twice."""
    rows = list(box(n, -1, source.choice((-1, 0, 1, 2))))
    for _ in range(source.randint(0, 3)):
        if rows and source.random() < 0.3:
            coefficients, constant = source.choice(rows)
            factor = ratio(source.choice((1, 2, HALF, -1)))
            rows.append((tuple(factor * x for x in coefficients), factor * constant))
        else:
            row = [source.randint(-2, 2) for _ in range(n)]
            rows.append(region([*row, Fraction(source.randint(-1, 3), source.randint(1, 2))])[0])
    source.shuffle(rows)
    return tuple(rows)


class ValueTest(unittest.TestCase):
    def check(self, one, point, expected):
        found = value(one, ratios(point))
        self.assertIsInstance(found, Ratio)
        self.assertEqual(fraction(found), expected)

    def test_no_variables(self):
        self.check(quadratic({}, 0), [], 0)
        self.check(quadratic({}, Fraction(-3, 7)), [], Fraction(-3, 7))

    def test_one_variable(self):
        one = quadratic({(0, 0): 2}, -3, HALF)
        self.check(one, [0], HALF)
        self.check(one, [5], 2 * 25 - 15 + HALF)
        self.check(one, [Fraction(-1, 3)], Fraction(2, 9) + 1 + HALF)

    def test_two_variables(self):
        one = quadratic({(0, 0): 1, (0, 1): -4, (1, 1): 3}, 5, -6, 7)
        self.check(one, [0, 0], 7)
        self.check(one, [1, 0], 1 + 5 + 7)
        self.check(one, [0, 1], 3 - 6 + 7)
        self.check(one, [2, 3], 4 - 24 + 27 + 10 - 18 + 7)

    def test_three_variables(self):
        names = [(0, 0), (0, 1), (0, 2), (1, 1), (1, 2), (2, 2)]
        for k, pair in enumerate(names):
            self.check(quadratic({pair: 10}, 0, 0, 0, 0), [2, 3, 5], 10 * [4, 6, 10, 9, 15, 25][k])
        for k in range(3):
            row = [0, 0, 0, 0]
            row[k] = Fraction(7, 2)
            self.check(quadratic({}, *row), [2, 3, 5], Fraction(7, 2) * [2, 3, 5][k])

    def test_as_by_fractions(self):
        source = random.Random(11)
        for _ in range(200):
            n = source.randint(0, 3)
            one = sample_quadratic(source, n)
            point = [Fraction(source.randint(-9, 9), source.randint(1, 9)) for _ in range(n)]
            self.check(one, point, slow_value(one, point))

    def test_great_numbers(self):
        great = 7 ** 2000
        self.check(quadratic({(0, 1): great}, 0, 0, 1), [great, Fraction(1, great)], great + 1)

    def test_the_arguments_stay_as_they_are(self):
        one = quadratic({(0, 0): 1, (0, 1): -4}, 5, -6, 7)
        point = ratios([2, 3])
        kept = copy.deepcopy((one, point))
        first, second = value(one, point), value(one, point)
        self.assertEqual((one, point), kept)
        self.assertEqual(first, second)


class LeastTest(unittest.TestCase):
    def check(self, one, forms, n, expected, point=None):
        found = least(one, forms, n)
        if expected is None:
            self.assertIsNone(found)
            return
        self.assertIsInstance(found, tuple)
        self.assertEqual(len(found), 2)
        self.assertIsInstance(found[1], list)
        self.assertEqual((fraction(found[0]), fractions(found[1])), (expected, point))

    def test_no_variables(self):
        self.check(quadratic({}, Fraction(3, 4)), (), 0, Fraction(3, 4), [])
        self.check(quadratic({}, -2), region([0], [5]), 0, -2, [])
        self.check(quadratic({}, -2), region([0], [-5]), 0, None)

    def test_convex(self):
        self.check(quadratic({(0, 0): 1}, -1, 0), box(1), 1, Fraction(-1, 4), [HALF])
        self.check(quadratic({(0, 0): 1}, -6, 0), box(1), 1, -5, [1])
        self.check(quadratic({(0, 0): 1}, 6, 0), box(1), 1, 0, [0])
        self.check(quadratic({(0, 0): 1, (1, 1): 1}, -1, -4, 0), box(2), 2, Fraction(-13, 4), [HALF, 1])
        round_one = quadratic({(0, 0): 1, (0, 1): 1, (1, 1): 1, (2, 2): 3}, -1, -1, -2, 0)
        self.check(round_one, box(3), 3, Fraction(-2, 3), [Fraction(1, 3)] * 3)

    def test_convex_on_an_edge_and_on_a_side(self):
        near = quadratic({(0, 0): 1, (1, 1): 1}, 0, 0, 0)
        self.check(near, box(2, -1, 1) + region([1, 1, -1]), 2, HALF, [HALF, HALF])
        ball = quadratic({(0, 0): 1, (1, 1): 1, (2, 2): 1}, 0, 0, 0, 0)
        self.check(ball, box(3, -9, 9) + region([1, 2, 2, -9]), 3, 9, [1, 2, 2])
        self.check(ball, box(3, -9, 9) + region([1, 0, 0, -2], [0, 1, 1, -2]), 3, 6, [2, 1, 1])

    def test_concave(self):
        self.check(quadratic({(0, 0): -1}, 0, 0), box(1, -1, 2), 1, -4, [2])
        self.check(quadratic({(0, 0): -1, (1, 1): -1}, 1, HALF, 0), box(2, -1, 1), 2, Fraction(-7, 2), [-1, -1])
        self.check(quadratic({(0, 0): -1, (1, 1): -1, (2, 2): -1}, 0, 0, -1, 0), box(3), 3, -4, [1, 1, 1])

    def test_mixed(self):
        saddle = quadratic({(0, 1): 1}, 0, 0, 0)
        self.check(saddle, box(2, -1, 2), 2, -2, [-1, 2])
        self.check(quadratic({(0, 0): 1, (1, 1): -1}, 0, 0, 0), box(2, -1, 1), 2, -1, [0, -1])
        self.check(quadratic({(0, 0): 1, (1, 2): 1}, 1, 0, 0, 0), box(3, -1, 1), 3, Fraction(-5, 4), [-HALF, -1, 1])

    def test_without_squares(self):
        self.check(quadratic({}, 1, -1, 3), box(2), 2, 2, [0, 1])
        self.check(quadratic({}, -2, 0, 0, 0), box(3), 3, -2, [1, 0, 0])

    def test_the_same_everywhere(self):
        self.check(quadratic({}, 0, 5), box(1, -2, 3), 1, 5, [-2])
        self.check(quadratic({}, 0, 0, 5), box(2, -2, 3), 2, 5, [-2, -2])
        self.check(quadratic({}, 0, 0, 0, 5), box(3, -2, 3), 3, 5, [-2, -2, -2])

    def test_the_first_one_of_several_points(self):
        self.check(quadratic({(0, 0): -1}, 0, 0), box(1, -1, 1), 1, -1, [-1])
        self.check(quadratic({(0, 0): -1}, 0, 0), tuple(reversed(box(1, -1, 1))), 1, -1, [-1])
        self.check(quadratic({(0, 1): 1}, 0, 0, 0), box(2, -1, 1), 2, -1, [-1, 1])
        self.check(quadratic({(0, 1): -1}, 0, 0, 0), box(2, -1, 1), 2, -1, [-1, -1])
        # Along the line x + y = 1 all values are 0; the points at its ends are found.
        level = quadratic({(0, 0): 1, (0, 1): 2, (1, 1): 1}, -2, -2, 1)
        self.check(level, box(2), 2, 0, [0, 1])

    def test_only_points_that_are_found_count(self):
        # x * x is 0 on a whole side; with y from 1/3 to 1 the first point of it that is found has y = 1/3.
        wide = region([1, 0, 1], [-1, 0, 1], [0, 3, -1], [0, -1, 1])
        self.check(quadratic({(0, 0): 1}, 0, 0, 0), wide, 2, 0, [0, Fraction(1, 3)])
        self.check(quadratic({(0, 0): 1}, 0, 0, 0, 0), box(3, -1, 1), 3, 0, [0, -1, -1])

    def test_empty_regions(self):
        self.check(quadratic({(0, 0): 1}, 0, 0), box(1, 1, 0), 1, None)
        self.check(quadratic({}, 0, 0, 0), box(2) + region([1, 1, -3]), 2, None)
        self.check(quadratic({(0, 0): 1, (1, 2): -3}, 0, 0, 0, 0), box(3) + region([-1, -1, -1, -1]), 3, None)

    def test_a_single_point(self):
        self.check(quadratic({(0, 0): -7}, 2, 1), box(1, 3, 3), 1, -56, [3])
        self.check(quadratic({(0, 1): -7}, 0, 0, 1), box(2, 2, 2), 2, -27, [2, 2])
        self.check(quadratic({(2, 2): 5}, 0, 0, 0, 1), box(3) + region([-1, -1, -1, 0]), 3, 1, [0, 0, 0])

    def test_flat_regions(self):
        line = box(2, -1, 1) + region([1, -1, 0], [-1, 1, 0])
        self.check(quadratic({(0, 1): 1}, -1, 0, 0), line, 2, Fraction(-1, 4), [HALF, HALF])
        self.check(quadratic({(0, 1): -1}, 0, 0, 0), line, 2, -1, [-1, -1])
        sheet = box(3) + region([1, 1, 1, -1], [-1, -1, -1, 1])
        ball = quadratic({(0, 0): 1, (1, 1): 1, (2, 2): 1}, 0, 0, 0, 0)
        self.check(ball, sheet, 3, Fraction(1, 3), [Fraction(1, 3)] * 3)

    def test_the_same_form_twice(self):
        for times in (1, 2, 4):
            self.check(quadratic({(0, 0): 1}, -1, 0), box(1) * times, 1, Fraction(-1, 4), [HALF])
            self.check(quadratic({(0, 1): 1}, -1, -1, 0), box(2) * times, 2, -1, [0, 1])
            self.check(quadratic({(0, 1): 1, (2, 2): 1}, 0, 0, -1, 0), box(3) * times, 3, Fraction(-1, 4), [0, 0, HALF])

    def test_forms_without_coefficients(self):
        self.check(quadratic({(0, 0): 1}, -1, 0), box(1) + region([0, 0], [0, 3]), 1, Fraction(-1, 4), [HALF])
        self.check(quadratic({(0, 0): 1}, -1, 0), box(1) + region([0, -1]), 1, None)

    def test_twenty_four_forms(self):
        cut = region(*[[x, y, z, Fraction(5, 2)] for x in (-1, 1) for y in (-1, 1) for z in (-1, 1)])
        far = region(*[[x, y, 0, 9] for x in (-1, 1) for y in (-2, 0, 1, 2, 3)])
        many = box(3, -1, 1) + cut + far
        self.assertEqual(len(many), 24)
        source = random.Random(12)
        one = sample_quadratic(source, 3)
        self.check(one, many, 3, *slow_least(one, many, 3))

    def test_as_by_all_choices_of_forms(self):
        source = random.Random(13)
        empty = 0
        for _ in range(250):
            n = source.randint(0, 3)
            one = sample_quadratic(source, n)
            forms = sample_region(source, n)
            expected = slow_least(one, forms, n)
            if expected is None:
                empty += 1
                self.check(one, forms, n, None)
            else:
                self.check(one, forms, n, *expected)
        self.assertGreater(empty, 20)

    def test_no_point_has_less(self):
        source = random.Random(14)
        for _ in range(60):
            n = source.randint(1, 3)
            one = sample_quadratic(source, n)
            forms = sample_region(source, n)
            found = least(one, forms, n)
            for point in product([Fraction(k, 4) for k in range(-4, 9, 1 if n < 3 else 2)], repeat=n):
                if all(form_value(row, point) >= 0 for row in forms):
                    self.assertGreaterEqual(slow_value(one, point), fraction(found[0]))

    def test_the_arguments_stay_as_they_are(self):
        one = quadratic({(0, 0): 1, (0, 1): 1}, 1, 2, 3)
        forms = box(2, -1, 1)
        kept = copy.deepcopy((one, forms))
        least(one, forms, 2)
        self.assertEqual((one, forms), kept)

    def test_the_point_belongs_to_the_caller(self):
        one = quadratic({(0, 0): 1, (0, 1): 1}, 1, 2, 3)
        first, second = least(one, box(2), 2), least(one, box(2), 2)
        first[1].append("changed")
        first[1][0] = Ratio(77)
        self.assertEqual(fractions(second[1]), [0, 0])
        self.check(one, box(2), 2, 3, [0, 0])


class EvidenceTest(unittest.TestCase):
    def check(self, one, forms, n, expected):
        found = evidence(one, forms, n)
        self.assertIsInstance(found, list)
        for face in found:
            self.assertIsInstance(face, tuple)
            self.assertIsInstance(face[0], tuple)
            self.assertTrue(all(type(index) is int for index in face[0]))
        self.assertEqual(found, expected)

    def test_no_variables(self):
        self.check(quadratic({}, 5), (), 0, [((), "point")])
        self.check(quadratic({}, 5), region([1], [0], [-1]), 0, [((), "point")])

    def test_one_variable(self):
        ends = [((0,), "point"), ((1,), "point")]
        self.check(quadratic({(0, 0): 1}, 1, 0), box(1), 1, [((), "point"), *ends])
        self.check(quadratic({}, 1, 0), box(1), 1, [((), "flat"), *ends])
        self.check(quadratic({}, 0, 0), box(1), 1, [((), "flat"), *ends])
        self.check(quadratic({(0, 0): 1}, 1, 0), (), 1, [((), "point")])

    def test_two_variables(self):
        pairs = [(0, 2), (0, 3), (1, 2), (1, 3)]
        self.check(quadratic({(0, 1): 1}, 0, 0, 0), box(2), 2,
                   [((), "point"), *[((k,), "flat") for k in range(4)], *[(pair, "point") for pair in pairs]])
        self.check(quadratic({(0, 0): 1}, 0, 0, 0), box(2), 2,
                   [((), "flat"), ((0,), "flat"), ((1,), "flat"), ((2,), "point"), ((3,), "point"),
                    *[(pair, "point") for pair in pairs]])

    def test_an_equation_without_solution_is_flat(self):
        # Along the form 0 the quadratic is y, which changes everywhere; along x = y it has a least value.
        self.check(quadratic({(0, 0): 1}, 0, 1, 0), region([1, 0, 0], [1, -1, 0]), 2,
                   [((), "flat"), ((0,), "flat"), ((1,), "point"), ((0, 1), "point")])

    def test_the_order(self):
        self.check(quadratic({}, 0, 0, 0), region([1, 0, 0], [0, 1, 0], [1, 1, 0], [1, 2, 0]), 2,
                   [((), "flat"), ((0,), "flat"), ((1,), "flat"), ((2,), "flat"), ((3,), "flat"),
                    *[(pair, "point") for pair in ((0, 1), (0, 2), (0, 3), (1, 2), (1, 3), (2, 3))]])

    def test_only_independent_forms(self):
        twice = region([1, 0, 0], [2, 0, 5], [0, 0, 1], [0, 1, 0], [0, -3, 1])
        self.check(quadratic({}, 1, 1, 0), twice, 2,
                   [((), "flat"), ((0,), "flat"), ((1,), "flat"), ((3,), "flat"), ((4,), "flat"),
                    *[(pair, "point") for pair in ((0, 3), (0, 4), (1, 3), (1, 4))]])
        plane = region([1, 0, 1, 0], [0, 1, 1, 0], [1, 1, 2, 5], [1, -1, 0, 1])
        found = evidence(quadratic({(0, 0): 1, (1, 1): 1, (2, 2): 1}, 0, 0, 0, 0), plane, 3)
        self.assertEqual([indices for indices, _ in found if len(indices) == 3], [])
        self.assertEqual(len(found), 1 + 4 + 6)

    def test_points_out_of_the_region_are_listed_too(self):
        self.check(quadratic({(0, 0): 1}, 100, 0), box(1), 1, [((), "point"), ((0,), "point"), ((1,), "point")])
        self.check(quadratic({(0, 0): 1}, 0, 0), box(1, 1, 0), 1, [((), "point"), ((0,), "point"), ((1,), "point")])

    def test_as_by_multipliers(self):
        source = random.Random(15)
        for _ in range(200):
            n = source.randint(0, 3)
            one = sample_quadratic(source, n)
            forms = sample_region(source, n)
            self.check(one, forms, n, slow_evidence(one, forms, n))

    def test_twenty_four_forms(self):
        one = quadratic({(0, 0): 1, (0, 1): 3, (2, 2): -1}, 1, 2, 3, 4)
        found = evidence(one, box(3) * 4, 3)
        self.assertEqual(len(found), 1 + 24 + 3 * 64 + 512)
        self.assertEqual(len(set(found)), len(found))
        self.assertEqual(found, sorted(found, key=lambda face: (len(face[0]), face[0])))

    def test_the_list_belongs_to_the_caller(self):
        one = quadratic({(0, 0): 1}, 1, 0)
        first = evidence(one, box(1), 1)
        second = evidence(one, box(1), 1)
        first.pop()
        self.assertEqual(len(second), 3)
        self.assertEqual(len(evidence(one, box(1), 1)), 3)


class HoldsTest(unittest.TestCase):
    def check(self, one, forms, n, v, faces, expected):
        self.assertIs(holds(one, forms, n, ratio(v), faces), expected)

    def samples(self):
        source = random.Random(16)
        for _ in range(25):
            n = source.randint(0, 3)
            one, forms = sample_quadratic(source, n), sample_region(source, n)
            found = least(one, forms, n)
            if found is not None:
                yield one, forms, n, fraction(found[0]), evidence(one, forms, n)

    def test_below_at_and_above_the_least_value(self):
        for one, forms, n, v, faces in self.samples():
            self.check(one, forms, n, v, faces, True)
            self.check(one, forms, n, v - Fraction(1, 10 ** 40), faces, True)
            self.check(one, forms, n, v - 5, faces, True)
            self.check(one, forms, n, v + Fraction(1, 10 ** 40), faces, False)
            self.check(one, forms, n, v + 5, faces, False)

    def test_points_out_of_the_region_may_have_less(self):
        one = quadratic({(0, 0): 1}, 4, 0)
        self.check(one, box(1), 1, 0, evidence(one, box(1), 1), True)
        self.check(one, box(1), 1, Fraction(1, 9), evidence(one, box(1), 1), False)

    def test_an_empty_region(self):
        one = quadratic({(0, 0): 1}, 4, 0)
        self.check(one, box(1, 1, 0), 1, 1000, evidence(one, box(1, 1, 0), 1), True)
        self.check(one, box(1, 1, 0), 1, 1000, [], False)

    def test_a_word_is_changed(self):
        for one, forms, n, v, faces in self.samples():
            for k, (indices, word) in enumerate(faces):
                for other in ("point", "flat", "Point", "", "points", None, True, 0, Ratio(0), ("point",), ["point"]):
                    changed = [*faces[:k], (indices, other), *faces[k + 1:]]
                    self.check(one, forms, n, v - 1, changed, other == word)

    def test_an_index_is_changed(self):
        for one, forms, n, v, faces in self.samples():
            for k, (indices, word) in enumerate(faces):
                for j, index in enumerate(indices):
                    for other in (index + 1, index - 1, -1, 99, None, True, False, str(index), Ratio(index), (index,),
                                  [index]):
                        changed = [*faces[:k], ((*indices[:j], other, *indices[j + 1:]), word), *faces[k + 1:]]
                        self.check(one, forms, n, v - 1, changed, False)

    def test_true_and_false_are_no_indices(self):
        one = quadratic({}, 1, 0)
        self.check(one, box(1), 1, 0, [((), "flat"), ((0,), "point"), ((1,), "point")], True)
        self.check(one, box(1), 1, 0, [((), "flat"), ((False,), "point"), ((1,), "point")], False)
        self.check(one, box(1), 1, 0, [((), "flat"), ((0,), "point"), ((True,), "point")], False)

    def test_a_face_is_left_out_or_put_twice(self):
        for one, forms, n, v, faces in self.samples():
            for k, face in enumerate(faces):
                self.check(one, forms, n, v - 1, faces[:k] + faces[k + 1:], False)
                self.check(one, forms, n, v - 1, faces[:k] + [face] + faces[k:], False)
                if k + 1 < len(faces):
                    self.check(one, forms, n, v - 1, faces[:k] + [face] * 2 + faces[k + 2:], False)
            self.check(one, forms, n, v - 1, [], False)
            self.check(one, forms, n, v - 1, faces + faces, False)

    def test_two_faces_are_turned_about(self):
        for one, forms, n, v, faces in self.samples():
            for k in range(len(faces) - 1):
                changed = [*faces[:k], faces[k + 1], faces[k], *faces[k + 2:]]
                self.check(one, forms, n, v - 1, changed, False)
            self.check(one, forms, n, v - 1, faces[::-1], len(faces) < 2)

    def test_indices_are_turned_about_or_dependent(self):
        one = quadratic({(0, 1): 1}, 0, 0, 0)
        faces = evidence(one, box(2), 2)
        self.check(one, box(2), 2, 0, faces, True)
        turned = [(indices[::-1], word) for indices, word in faces]
        self.check(one, box(2), 2, 0, turned, False)
        self.check(one, box(2), 2, 0, [*faces[:5], ((0, 1), "flat"), *faces[5:]], False)
        self.check(one, box(2), 2, 0, [*faces, ((0, 1), "flat")], False)
        self.check(one, box(2), 2, 0, [*faces, ((0, 0), "flat")], False)
        self.check(one, box(2), 2, 0, [*faces, ((0, 1, 2), "flat")], False)
        self.check(one, box(2), 2, 0, [*faces[:-1], ((0, 1), "point")], False)

    def test_lists_for_tuples_and_tuples_for_lists(self):
        for one, forms, n, v, faces in self.samples():
            self.check(one, forms, n, v, tuple(faces), False)
            for k, (indices, word) in enumerate(faces):
                for other in ([indices, word], (list(indices), word), ((indices,), word), (indices, word, word),
                              (indices,), (word, indices), indices, word, ((indices, word),), [(indices, word)]):
                    self.check(one, forms, n, v, [*faces[:k], other, *faces[k + 1:]], False)

    def test_other_values(self):
        for one, forms, n, v, faces in self.samples():
            for other in OTHERS:
                self.check(one, forms, n, v - 1, other, False)
                for k in (0, len(faces) - 1):
                    self.check(one, forms, n, v - 1, [*faces[:k], other, *faces[k + 1:]],
                               other == ((), "point") and faces[k] == other)

    def test_deeply_nested_values(self):
        one = quadratic({}, 1, 0)
        deep_list, deep_tuple = [], ()
        for _ in range(100000):
            deep_list, deep_tuple = [deep_list], (deep_tuple,)
        faces = evidence(one, box(1), 1)
        for deep in (deep_list, deep_tuple):
            for other in (deep, [deep, *faces[1:]], [((), deep), *faces[1:]], [(deep, "flat"), *faces[1:]],
                          [*faces[:2], ((deep,), "point")]):
                self.check(one, box(1), 1, 0, other, False)

    def test_of_another_region(self):
        one = quadratic({(0, 0): 1}, 4, 0)
        self.check(one, box(1), 1, 0, evidence(one, box(1) * 2, 1), False)
        self.check(one, box(1) * 2, 1, 0, evidence(one, box(1), 1), False)
        self.check(quadratic({}, 4, 0), box(1), 1, 0, evidence(one, box(1), 1), False)

    def test_the_arguments_stay_as_they_are(self):
        one, forms = quadratic({(0, 0): 1, (0, 1): 1}, 1, 2, 3), box(2)
        faces = evidence(one, forms, 2)
        kept = copy.deepcopy((one, forms, faces))
        holds(one, forms, 2, Ratio(0), faces)
        holds(one, forms, 2, Ratio(9), faces)
        self.assertEqual((one, forms, faces), kept)


class PlaceTest(unittest.TestCase):
    def test_the_functions_are_defined_here(self):
        for function in (value, least, evidence, holds):
            self.assertEqual(function.__module__, "traproom.quadratics")


if __name__ == "__main__":
    unittest.main()
