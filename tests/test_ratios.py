import unittest
from fractions import Fraction

from graincourse.errors import InvalidFraction
from graincourse.ratios import (
    is_fraction, is_number, negative, order, parse_ratio, plus, ratio_text, reduced, times, total)

GREAT = 10 ** 30 - 1
SOME = [(0, 1), (1, 1), (-1, 1), (1, 2), (-2, 3), (7, 3), (-7, 12), (GREAT, 2), (1, GREAT), (-GREAT, GREAT - 1)]


def pair(value):
    return (value.numerator, value.denominator)


class ReducedTest(unittest.TestCase):
    def test_ordinary(self):
        self.assertEqual(reduced(2, 4), (1, 2))
        self.assertEqual(reduced(3, 4), (3, 4))
        self.assertEqual(reduced(12, 4), (3, 1))

    def test_signs(self):
        self.assertEqual(reduced(-2, 4), (-1, 2))
        self.assertEqual(reduced(2, -4), (-1, 2))
        self.assertEqual(reduced(-2, -4), (1, 2))

    def test_zero(self):
        for denominator in (1, -1, 7, -7, GREAT):
            self.assertEqual(reduced(0, denominator), (0, 1))

    def test_zero_denominator(self):
        for numerator in (0, 1, -1, GREAT):
            with self.assertRaises(InvalidFraction):
                reduced(numerator, 0)

    def test_great_numbers(self):
        self.assertEqual(reduced(GREAT * 6, -GREAT * 4), (-3, 2))
        self.assertEqual(reduced(GREAT, GREAT - 1), (GREAT, GREAT - 1))
        self.assertEqual(reduced(3 ** 900, 3 ** 901 * 5), (1, 15))

    def test_small_numbers_against_fractions(self):
        for numerator in range(-30, 31):
            for denominator in [n for n in range(-30, 31) if n]:
                self.assertEqual(reduced(numerator, denominator), pair(Fraction(numerator, denominator)))

    def test_by_name(self):
        self.assertEqual(reduced(denominator=4, numerator=2), (1, 2))


class IsFractionTest(unittest.TestCase):
    def test_fractions(self):
        for value in SOME:
            self.assertIs(is_fraction(value), True, value)
        self.assertIs(is_fraction(value=(3, 7)), True)

    def test_lists_stand_for_tuples(self):
        self.assertIs(is_fraction([1, 2]), True)
        self.assertIs(is_fraction([2, 4]), False)

    def test_not_in_lowest_terms(self):
        for value in [(2, 4), (0, 2), (4, 2), (-3, 3), (GREAT, GREAT), (2 * GREAT, 4)]:
            self.assertIs(is_fraction(value), False, value)

    def test_denominator_not_positive(self):
        for value in [(1, 0), (0, 0), (1, -2), (-1, -2), (0, -1), (-1, 0)]:
            self.assertIs(is_fraction(value), False, value)

    def test_not_pairs(self):
        for value in [(), (1,), (0,), (1, 2, 3), (1, 2, 1), (0, 1, 0, 1)]:
            self.assertIs(is_fraction(value), False, value)

    def test_numbers(self):
        self.assertEqual([is_number(value) for value in (0, -5, GREAT, True, False, "1")], [True] * 3 + [False] * 3)

    def test_truth_values_are_no_numbers(self):
        for value in [(True, 2), (1, True), (False, 1), (True, True)]:
            self.assertIs(is_fraction(value), False, value)


class SumsTest(unittest.TestCase):
    def test_example(self):
        self.assertEqual(
            [plus((1, 2), (1, 3), (1, 6)), times((2, 3), (-3, 4)), plus()], [(1, 1), (-1, 2), (0, 1)])

    def test_no_argument(self):
        self.assertEqual([plus(), times(), total([]), total(())], [(0, 1), (1, 1), (0, 1), (0, 1)])

    def test_one_argument(self):
        for part in SOME:
            self.assertEqual([plus(part), times(part), total([part]), total((part,))], [part] * 4)

    def test_two_against_fractions(self):
        for one in SOME:
            for other in SOME:
                left, right = Fraction(*one), Fraction(*other)
                self.assertEqual(plus(one, other), pair(left + right))
                self.assertEqual(times(one, other), pair(left * right))
                self.assertEqual(total([one, other]), pair(left + right))

    def test_sum_to_zero(self):
        self.assertEqual(plus((1, 2), (-1, 3), (-1, 6)), (0, 1))
        self.assertEqual(times((0, 1), (5, 7), (-GREAT, 2)), (0, 1))

    def test_many_great_denominators(self):
        parts = [pair(Fraction((-1) ** k * (k + 1), GREAT - 2 * k)) for k in range(200)]
        whole, product = Fraction(0), Fraction(1)
        for part in parts:
            whole += Fraction(*part)
            product *= Fraction(*part)
        self.assertEqual(total(parts), pair(whole))
        self.assertEqual(plus(*parts), pair(whole))
        self.assertEqual(times(*parts), pair(product))

    def test_many_equal_denominators(self):
        self.assertEqual(total([(1, GREAT)] * 200), pair(Fraction(200, GREAT)))
        self.assertEqual(plus(*[(1, 200)] * 200), (1, 1))
        self.assertEqual(times(*[(2, 3)] * 50, *[(3, 2)] * 50), (1, 1))

    def test_arguments_do_not_change(self):
        parts = [(1, 2), (1, 3)]
        total(parts)
        plus(*parts)
        self.assertEqual(parts, [(1, 2), (1, 3)])

    def test_lists_stand_for_tuples(self):
        one, other = [1, 2], [1, 3]
        self.assertEqual([plus(one, other), times(one, other)], [(5, 6), (1, 6)])
        self.assertEqual([total([one]), plus(one), times(one)], [(1, 2)] * 3)
        self.assertEqual([one, other], [[1, 2], [1, 3]])

    def test_by_name(self):
        self.assertEqual(total(parts=[(1, 2), (1, 2)]), (1, 1))


class NegativeAndOrderTest(unittest.TestCase):
    def test_negative(self):
        self.assertEqual([negative((1, 2)), negative((-1, 2)), negative((0, 1))], [(-1, 2), (1, 2), (0, 1)])
        self.assertEqual(negative(part=(GREAT, 7)), (-GREAT, 7))
        self.assertEqual(negative([1, 2]), (-1, 2))

    def test_order(self):
        self.assertEqual([order((1, 3), (1, 2)), order((1, 2), (1, 2)), order((1, 2), (1, 3))], [-1, 0, 1])
        self.assertEqual(order(other=(1, 2), one=(1, 3)), -1)

    def test_order_against_fractions(self):
        for one in SOME:
            for other in SOME:
                left, right = Fraction(*one), Fraction(*other)
                self.assertEqual(order(one, other), (left > right) - (left < right))

    def test_order_of_close_fractions(self):
        self.assertEqual(order((GREAT - 2, GREAT - 1), (GREAT - 1, GREAT)), -1)
        self.assertEqual(order((1 - GREAT, GREAT), (2 - GREAT, GREAT - 1)), -1)


class TextTest(unittest.TestCase):
    def test_write(self):
        rows = [((0, 1), "0"), ((5, 1), "5"), ((-5, 1), "-5"), ((1, 2), "1/2"), ((-1, 2), "-1/2"), ((10, 1), "10")]
        for part, text in rows:
            self.assertEqual(ratio_text(part), text)
            self.assertEqual(ratio_text(part=list(part)), text)
            self.assertEqual(parse_ratio(text), part)

    def test_write_long_numbers(self):
        for many in (63, 64, 65, 127, 128, 129, 4000, 4600):
            for digits in ("1" + "0" * (many - 1), "9" * many, ("1203" * many)[:many]):
                number = 0
                for digit in digits:
                    number = number * 10 + int(digit)
                self.assertEqual(ratio_text((number, 1)), digits)
                self.assertEqual(ratio_text((-number, number + 1)).partition("/")[0], "-" + digits)
                self.assertEqual(ratio_text((1, number)), "1/" + digits)

    def test_read_what_is_written(self):
        for numerator in range(-20, 21):
            for denominator in range(1, 21):
                part = reduced(numerator, denominator)
                self.assertEqual(parse_ratio(ratio_text(part)), part)

    def test_read_thirty_digits(self):
        for text in ("9" * 30, "-" + "9" * 30, "1/" + "9" * 30, "-" + "8" * 29 + "9/" + "9" * 29 + "7"):
            self.assertEqual(ratio_text(parse_ratio(text)), text)
        self.assertEqual(parse_ratio(text="1" + "0" * 29), (10 ** 29, 1))

    def test_more_than_thirty_digits(self):
        for text in ("1" + "0" * 30, "-1" + "0" * 30, "1/1" + "0" * 30, "9" * 5000, "1/" + "9" * 20000):
            with self.assertRaises(InvalidFraction):
                parse_ratio(text)

    def test_wrong_texts(self):
        wrong = [
            "", "2/4", "-0", "+1", "01", "1/1", "1/-2", " 1", "1 ", "0/1", "0/2", "-0/1", "0/0", "1/0", "-1/0",
            "1/", "/2", "/", "-", "-/2", "--1", "-1/-2", "1/+2", "1/02", "01/2", "00", "-01", "1//2", "1/2/3",
            "1/ 2", "1 /2", "1\n", "\n1", "1\n/2", "1_0", "1.0", "1,0", "1e3", "0x1", "a", "1a", "one", "3/1", "6/3",
            "- 1", "1-", "1/2-", "~", "4/2", "-2/4", "\u0661", "\u00b2", "1/\u0662"]
        for text in wrong:
            with self.assertRaises(InvalidFraction, msg=text):
                parse_ratio(text)

    def test_example(self):
        with self.assertRaises(InvalidFraction):
            parse_ratio("2/4")


if __name__ == "__main__":
    unittest.main()
