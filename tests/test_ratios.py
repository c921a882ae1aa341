import random
import unittest
from fractions import Fraction

from tests.helpers import fraction, ratio
from traproom.errors import ByZero
from traproom.ratios import Ratio, is_less, quotient, ratio_text

GREAT = 3 ** 20000
VALUES = [
    Fraction(0), Fraction(1), Fraction(-1), Fraction(7), Fraction(-12), Fraction(1, 2), Fraction(-1, 2),
    Fraction(2, 3), Fraction(-22, 7), Fraction(5, 6), Fraction(10 ** 40 + 1, 3 ** 50), Fraction(-(2 ** 200), 5 ** 90),
]


def parts(number):
    return (number.top, number.bottom)


class RatioTest(unittest.TestCase):
    def test_lowest_terms(self):
        self.assertEqual(parts(Ratio(6, 4)), (3, 2))
        self.assertEqual(parts(Ratio(12, 3)), (4, 1))
        self.assertEqual(parts(Ratio(5, 7)), (5, 7))
        self.assertEqual(parts(Ratio(-6, 9)), (-2, 3))

    def test_denominators_below_zero(self):
        self.assertEqual(parts(Ratio(6, -4)), (-3, 2))
        self.assertEqual(parts(Ratio(-6, -4)), (3, 2))
        self.assertEqual(parts(Ratio(1, -1)), (-1, 1))

    def test_zero(self):
        self.assertEqual(parts(Ratio(0)), (0, 1))
        self.assertEqual(parts(Ratio(0, 5)), (0, 1))
        self.assertEqual(parts(Ratio(0, -5)), (0, 1))

    def test_integers(self):
        self.assertEqual(parts(Ratio(9)), (9, 1))
        self.assertEqual(parts(Ratio(-9)), (-9, 1))
        self.assertEqual(parts(Ratio(n=3, d=6)), (1, 2))

    def test_fields_are_integers(self):
        for number in (Ratio(4, -6), Ratio(0), Ratio(1, 2) - Ratio(1, 2), quotient(Ratio(1), Ratio(3))):
            self.assertIs(type(number.top), int)
            self.assertIs(type(number.bottom), int)

    def test_great_numbers(self):
        self.assertEqual(parts(Ratio(GREAT * 6, GREAT * -4)), (-3, 2))
        self.assertEqual(parts(Ratio(GREAT, GREAT + 1)), (GREAT, GREAT + 1))
        self.assertEqual(parts(Ratio(GREAT) * Ratio(1, GREAT)), (1, 1))
        self.assertEqual(parts(Ratio(1, GREAT) - Ratio(1, GREAT)), (0, 1))
        self.assertTrue(is_less(Ratio(GREAT, GREAT + 1), Ratio(GREAT + 1, GREAT + 2)))
        self.assertFalse(is_less(Ratio(GREAT + 1, GREAT + 2), Ratio(GREAT, GREAT + 1)))

    def test_denominator_zero(self):
        for top in (0, 1, -1, GREAT):
            with self.assertRaises(ByZero):
                Ratio(top, 0)

    def test_the_class_and_functions_are_defined_here(self):
        for thing in (Ratio, quotient, is_less, ratio_text):
            self.assertEqual(thing.__module__, "traproom.ratios")


class ArithmeticTest(unittest.TestCase):
    def check(self, number, expected):
        self.assertIsInstance(number, Ratio)
        self.assertEqual(parts(number), (expected.numerator, expected.denominator))

    def test_sum_difference_product(self):
        for a in VALUES:
            for b in VALUES:
                self.check(ratio(a) + ratio(b), a + b)
                self.check(ratio(a) - ratio(b), a - b)
                self.check(ratio(a) * ratio(b), a * b)

    def test_negative(self):
        for a in VALUES:
            self.check(-ratio(a), -a)

    def test_quotient(self):
        for a in VALUES:
            for b in VALUES:
                if b != 0:
                    self.check(quotient(ratio(a), ratio(b)), a / b)

    def test_division_by_zero(self):
        for a in VALUES:
            with self.assertRaises(ByZero):
                quotient(ratio(a), Ratio(0))

    def test_is_less(self):
        for a in VALUES:
            for b in VALUES:
                self.assertIs(is_less(ratio(a), ratio(b)), a < b)

    def test_many_numbers(self):
        source = random.Random(3)
        for _ in range(2000):
            a = Fraction(source.randint(-60, 60), source.randint(1, 60))
            b = Fraction(source.randint(-60, 60), source.randint(1, 60))
            self.check(ratio(a) + ratio(b), a + b)
            self.check(ratio(a) - ratio(b), a - b)
            self.check(ratio(a) * ratio(b), a * b)
            self.assertIs(is_less(ratio(a), ratio(b)), a < b)
            self.assertIs(ratio(a) == ratio(b), a == b)
            if b != 0:
                self.check(quotient(ratio(a), ratio(b)), a / b)

    def test_the_numbers_stay_as_they_are(self):
        a = Ratio(3, 4)
        b = Ratio(-5, 6)
        a + b, a - b, a * b, -a, a == b, a != b
        quotient(a, b), is_less(a, b), ratio_text(a)
        with self.assertRaises(ByZero):
            quotient(a, Ratio(0))
        self.assertEqual(parts(a), (3, 4))
        self.assertEqual(parts(b), (-5, 6))

    def test_assignments_with_signs_make_new_numbers(self):
        a = Ratio(3, 4)
        kept = a
        a += Ratio(1)
        a -= Ratio(1, 4)
        a *= Ratio(2)
        self.assertEqual(parts(a), (3, 1))
        self.assertEqual(parts(kept), (3, 4))

    def test_answers_do_not_depend_on_earlier_calls(self):
        a = Ratio(3, 4)
        b = Ratio(-5, 6)
        first = [a + b, a - b, a * b, -a, quotient(a, b)]
        quotient(b, a), a * a, Ratio(8, 6), ratio_text(Ratio(10 ** 3000))
        second = [a + b, a - b, a * b, -a, quotient(a, b)]
        self.assertEqual([fraction(x) for x in first], [fraction(x) for x in second])


class EqualityTest(unittest.TestCase):
    def test_equal_numbers(self):
        for a, b in ((Ratio(1, 2), Ratio(2, 4)), (Ratio(0), Ratio(0, -3)), (Ratio(3), Ratio(-9, -3))):
            self.assertIs(a == b, True)
            self.assertIs(a != b, False)

    def test_other_numbers(self):
        for a, b in ((Ratio(1, 2), Ratio(1, 3)), (Ratio(1, 2), Ratio(3, 2)), (Ratio(1), Ratio(-1))):
            self.assertIs(a == b, False)
            self.assertIs(a != b, True)

    def test_values_that_are_no_ratio(self):
        for other in (1, True, "1", None, 1.0, Fraction(1), (1, 1), [1], b"1", {}, object()):
            self.assertIs(Ratio(1) == other, False)
            self.assertIs(Ratio(1) != other, True)
            self.assertIs(other == Ratio(1), False)
            self.assertIs(other != Ratio(1), True)

    def test_zero_is_not_false(self):
        self.assertIs(Ratio(0) == False, False)  # noqa: E712
        self.assertIs(Ratio(0) == 0, False)

    def test_in_lists(self):
        self.assertEqual([Ratio(1, 2), Ratio(3)], [Ratio(2, 4), Ratio(3, 1)])
        self.assertIn(Ratio(4, 6), (Ratio(1), Ratio(2, 3)))
        self.assertNotIn(1, [Ratio(1)])


class TextTest(unittest.TestCase):
    def test_short_texts(self):
        self.assertEqual(ratio_text(Ratio(0)), "0")
        self.assertEqual(ratio_text(Ratio(7)), "7")
        self.assertEqual(ratio_text(Ratio(-7)), "-7")
        self.assertEqual(ratio_text(Ratio(6, 4)), "3/2")
        self.assertEqual(ratio_text(Ratio(6, -4)), "-3/2")
        self.assertEqual(ratio_text(Ratio(1, 1000)), "1/1000")

    def test_texts_at_powers_of_ten(self):
        for count in (1, 63, 64, 65, 127, 128, 129, 255, 256, 257, 640, 4299, 4300, 4301, 8192, 20000):
            power = 10 ** count
            self.assertEqual(ratio_text(Ratio(power)), "1" + "0" * count)
            self.assertEqual(ratio_text(Ratio(power - 1)), "9" * count)
            self.assertEqual(ratio_text(Ratio(-power)), "-1" + "0" * count)
            self.assertEqual(ratio_text(Ratio(power + 1)), "1" + "0" * (count - 1) + "1")

    def test_texts_of_several_thousand_digits(self):
        digits = "1234567890" * 1200 + "7"
        number = 0
        for digit in digits:
            number = number * 10 + int(digit)
        below = 10 ** 6000
        self.assertEqual(ratio_text(Ratio(number)), digits)
        self.assertEqual(ratio_text(Ratio(-number)), "-" + digits)
        self.assertEqual(ratio_text(Ratio(number, below)), digits + "/1" + "0" * 6000)
        self.assertEqual(ratio_text(Ratio(number, -below)), "-" + digits + "/1" + "0" * 6000)
        self.assertEqual(ratio_text(Ratio(1, number)), "1/" + digits)

    def test_texts_as_python_writes_them(self):
        source = random.Random(4)
        for _ in range(300):
            number = source.getrandbits(source.randint(1, 13000))
            self.assertEqual(ratio_text(Ratio(number)), str(number))
            self.assertEqual(ratio_text(Ratio(-number)), str(-number))

    def test_a_number_of_a_hundred_thousand_digits(self):
        self.assertEqual(ratio_text(Ratio(10 ** 100000 - 1)), "9" * 100000)


if __name__ == "__main__":
    unittest.main()
