import unittest
from fractions import Fraction
from math import gcd

from cutandlaid.numbers import less, minus, number, over, plus, sign, times

LONG = 10 ** 40 + 7
LONGER = 3 ** 90

SAMPLES = [(0, 1), (1, 1), (-1, 1), (1, 2), (-1, 2), (2, 3), (-2, 3), (7, 6), (-7, 6), (5, 1),
           (LONG, LONGER), (-LONG, LONGER), (LONGER, LONG), (-LONGER, 1)]


class NumberCase(unittest.TestCase):
    def is_number(self, value, fraction):
        """The value is the one form of the fraction."""
        self.assertIs(type(value), tuple)
        self.assertEqual([type(n) for n in value], [int, int])
        self.assertGreaterEqual(value[1], 1)
        self.assertEqual(gcd(*value), 1)
        self.assertEqual(Fraction(*value), fraction)


class MakingNumbers(NumberCase):
    def test_positive_and_negative_denominators(self):
        self.assertEqual(number(3, 4), (3, 4))
        self.assertEqual(number(-3, 4), (-3, 4))
        self.assertEqual(number(3, -4), (-3, 4))
        self.assertEqual(number(-3, -4), (3, 4))
        self.assertEqual(number(5, -1), (-5, 1))

    def test_common_divisors(self):
        self.assertEqual(number(6, 4), (3, 2))
        self.assertEqual(number(6, -4), (-3, 2))
        self.assertEqual(number(-12, -8), (3, 2))
        self.assertEqual(number(10, 5), (2, 1))
        self.assertEqual(number(5, 10), (1, 2))

    def test_nought_is_written_in_one_way(self):
        for d in (1, -1, 7, -7, LONG, -LONG):
            self.assertEqual(number(0, d), (0, 1))

    def test_long_integers(self):
        self.assertEqual(number(LONG * 6, LONGER * -4),
                         (-(LONG * 6 // gcd(LONG * 6, LONGER * 4)),
                          LONGER * 4 // gcd(LONG * 6, LONGER * 4)))
        self.is_number(number(LONG * LONGER, LONGER), LONG)
        self.is_number(number(-LONGER * 10, LONG * 15), Fraction(-LONGER * 10, LONG * 15))

    def test_each_small_pair(self):
        for n in range(-12, 13):
            for d in range(-12, 13):
                if d != 0:
                    self.is_number(number(n, d), Fraction(n, d))


class Reckoning(NumberCase):
    def test_known_answers(self):
        self.assertEqual(plus((1, 2), (1, 3)), (5, 6))
        self.assertEqual(plus((1, 2), (-1, 2)), (0, 1))
        self.assertEqual(plus((0, 1), (0, 1)), (0, 1))
        self.assertEqual(minus((1, 2), (1, 3)), (1, 6))
        self.assertEqual(minus((1, 2), (1, 2)), (0, 1))
        self.assertEqual(minus((0, 1), (3, 7)), (-3, 7))
        self.assertEqual(times((2, 3), (-3, 2)), (-1, 1))
        self.assertEqual(times((0, 1), (-3, 2)), (0, 1))
        self.assertEqual(over((1, 2), (-1, 4)), (-2, 1))
        self.assertEqual(over((0, 1), (-1, 4)), (0, 1))
        self.assertEqual(over((-1, 2), (-3, 4)), (2, 3))

    def test_all_pairs_of_samples(self):
        for a in SAMPLES:
            for b in SAMPLES:
                x, y = Fraction(*a), Fraction(*b)
                self.is_number(plus(a, b), x + y)
                self.is_number(minus(a, b), x - y)
                self.is_number(times(a, b), x * y)
                if y != 0:
                    self.is_number(over(a, b), x / y)

    def test_less(self):
        for a in SAMPLES:
            for b in SAMPLES:
                self.assertIs(less(a, b), Fraction(*a) < Fraction(*b))

    def test_less_of_equal_and_near_numbers(self):
        self.assertIs(less((1, 2), (1, 2)), False)
        self.assertIs(less((0, 1), (0, 1)), False)
        self.assertIs(less((LONG, LONG + 1), (LONG + 1, LONG + 2)), True)
        self.assertIs(less((LONG + 1, LONG + 2), (LONG, LONG + 1)), False)

    def test_sign(self):
        for a in SAMPLES:
            x = Fraction(*a)
            self.assertEqual(sign(a), (x > 0) - (x < 0))
            self.assertIs(type(sign(a)), int)
        self.assertEqual(sign((0, 1)), 0)
        self.assertEqual(sign((-1, LONG)), -1)
        self.assertEqual(sign((1, LONG)), 1)

    def test_the_example_of_the_document(self):
        self.assertEqual(over(number(6, -4), (3, 1)), (-1, 2))
