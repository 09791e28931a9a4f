import unittest
from fractions import Fraction

from cutandlaid.points import (added, comes_before, crossing, difference, first_of, point,
                               point_of, second_of, side)
from tests.helpers import at, in_one_form, pts, seeded, turn, xy

LONG = 10 ** 35 + 9


def random_point(source, reach=6, finest=4):
    w = source.randrange(1, finest + 1)
    return at(Fraction(source.randrange(-reach * w, reach * w + 1), w),
              Fraction(source.randrange(-reach * w, reach * w + 1), w))


class MakingPoints(unittest.TestCase):
    def test_signs_of_w(self):
        self.assertEqual(point(1, 2, 3), (1, 2, 3))
        self.assertEqual(point(1, 2, -3), (-1, -2, 3))
        self.assertEqual(point(-1, 2, -3), (1, -2, 3))
        self.assertEqual(point(5, -4, -1), (-5, 4, 1))
        self.assertEqual(point(5, -4, 1), (5, -4, 1))

    def test_a_divisor_of_all_three(self):
        self.assertEqual(point(2, 4, 6), (1, 2, 3))
        self.assertEqual(point(2, 4, -6), (-1, -2, 3))
        self.assertEqual(point(0, 0, 9), (0, 0, 1))
        self.assertEqual(point(0, 0, -9), (0, 0, 1))
        self.assertEqual(point(0, 6, 9), (0, 2, 3))
        self.assertEqual(point(8, 0, -12), (-2, 0, 3))

    def test_a_divisor_of_two_alone_stays(self):
        self.assertEqual(point(2, 4, 3), (2, 4, 3))
        self.assertEqual(point(2, 3, 4), (2, 3, 4))
        self.assertEqual(point(3, 2, 4), (3, 2, 4))
        self.assertEqual(point(6, 10, 15), (6, 10, 15))
        self.assertEqual(point(6, 10, -15), (-6, -10, 15))

    def test_long_integers(self):
        self.assertEqual(point(2 * LONG, -4 * LONG, -6 * LONG), (-1, 2, 3))
        self.assertEqual(point(LONG, 1, 2 * LONG), (LONG, 1, 2 * LONG))

    def test_each_small_triple(self):
        for x in range(-6, 7):
            for y in range(-6, 7):
                for w in (-6, -4, -3, -1, 1, 2, 4, 6):
                    p = point(x, y, w)
                    self.assertTrue(in_one_form(p))
                    self.assertEqual(xy(p), (Fraction(x, w), Fraction(y, w)))


class Coordinates(unittest.TestCase):
    def test_point_of(self):
        self.assertEqual(point_of((1, 2), (1, 3)), (3, 2, 6))
        self.assertEqual(point_of((1, 4), (1, 6)), (3, 2, 12))
        self.assertEqual(point_of((1, 2), (-3, 2)), (1, -3, 2))
        self.assertEqual(point_of((0, 1), (0, 1)), (0, 0, 1))
        self.assertEqual(point_of((-5, 1), (7, 1)), (-5, 7, 1))

    def test_first_and_second(self):
        self.assertEqual(first_of((3, 2, 6)), (1, 2))
        self.assertEqual(second_of((3, 2, 6)), (1, 3))
        self.assertEqual(first_of((0, -4, 3)), (0, 1))
        self.assertEqual(second_of((0, -4, 3)), (-4, 3))
        self.assertEqual(second_of((6, -10, 15)), (-2, 3))

    def test_there_and_back(self):
        source = seeded(1)
        for _ in range(300):
            p = random_point(source, finest=12)
            self.assertEqual(point_of(first_of(p), second_of(p)), p)
        numbers = [(0, 1), (1, 2), (-1, 2), (5, 3), (-7, 12), (LONG, 2), (-3, LONG)]
        for a in numbers:
            for b in numbers:
                p = point_of(a, b)
                self.assertTrue(in_one_form(p))
                self.assertEqual((first_of(p), second_of(p)), (a, b))


class Vectors(unittest.TestCase):
    def test_different_denominators(self):
        self.assertEqual(added((1, 1, 2), (1, 2, 3)), (5, 7, 6))
        self.assertEqual(added((1, 1, 2), (1, -1, 2)), (1, 0, 1))
        self.assertEqual(added((1, 1, 2), (-1, -1, 2)), (0, 0, 1))
        self.assertEqual(difference((1, 1, 2), (1, 2, 3)), (1, -1, 6))
        self.assertEqual(difference((1, 2, 3), (1, 1, 2)), (-1, 1, 6))
        self.assertEqual(difference((5, 7, 9), (5, 7, 9)), (0, 0, 1))
        self.assertEqual(difference((4, 5, 1), (1, 7, 1)), (3, -2, 1))

    def test_many(self):
        source = seeded(2)
        for _ in range(300):
            p, q = random_point(source, finest=12), random_point(source, finest=12)
            (x, y), (u, v) = xy(p), xy(q)
            self.assertEqual(added(p, q), at(x + u, y + v))
            self.assertEqual(difference(p, q), at(x - u, y - v))
            self.assertEqual(added(q, difference(p, q)), p)

    def test_long_integers(self):
        p = (1, 2, LONG)
        self.assertEqual(added(p, (1, 1, 3)), at(Fraction(1, LONG) + Fraction(1, 3),
                                                 Fraction(2, LONG) + Fraction(1, 3)))


class Order(unittest.TestCase):
    def test_comes_before(self):
        self.assertIs(comes_before((0, 9, 1), (1, -9, 1)), True)
        self.assertIs(comes_before((1, -9, 1), (0, 9, 1)), False)
        self.assertIs(comes_before((1, 2, 1), (1, 3, 1)), True)
        self.assertIs(comes_before((1, 3, 1), (1, 2, 1)), False)
        self.assertIs(comes_before((1, 2, 1), (1, 2, 1)), False)

    def test_with_different_denominators(self):
        self.assertIs(comes_before((1, 0, 3), (1, 0, 2)), True)
        self.assertIs(comes_before((-1, 0, 3), (-1, 0, 2)), False)
        self.assertIs(comes_before((3, 2, 6), (2, 3, 4)), True)
        self.assertIs(comes_before((2, 3, 4), (3, 2, 6)), False)

    def test_many(self):
        source = seeded(3)
        for _ in range(500):
            p, q = random_point(source, reach=2), random_point(source, reach=2)
            self.assertIs(comes_before(p, q), xy(p) < xy(q))


class Sides(unittest.TestCase):
    def test_left_right_and_on_the_line(self):
        a, b = (0, 0, 1), (2, 0, 1)
        for x in (-5, 0, 1, 2, 9):
            self.assertEqual(side(a, b, (x, 1, 1)), 1)
            self.assertEqual(side(a, b, (x, -1, 3)), -1)
            self.assertEqual(side(a, b, (x, 0, 1)), 0)

    def test_upwards_the_left_is_at_lesser_first_coordinates(self):
        self.assertEqual(side((0, 0, 1), (0, 1, 1), (-1, 0, 1)), 1)
        self.assertEqual(side((0, 0, 1), (0, 1, 1), (1, 0, 1)), -1)

    def test_the_ends_are_on_the_line(self):
        a, b = (1, 2, 3), (-4, 1, 5)
        self.assertEqual(side(a, b, a), 0)
        self.assertEqual(side(a, b, b), 0)
        self.assertEqual(side(b, a, a), 0)

    def test_many_also_exchanged(self):
        source = seeded(4)
        seen = set()
        for _ in range(800):
            a, b, c = [random_point(source, reach=2, finest=3) for _ in range(3)]
            if a == b:
                continue
            value = turn(xy(a), xy(b), xy(c))
            expected = (value > 0) - (value < 0)
            seen.add(expected)
            self.assertEqual(side(a, b, c), expected)
            self.assertEqual(side(b, a, c), -expected)
            self.assertEqual(side(b, c, a) if b != c else 0, expected)
        self.assertEqual(seen, {-1, 0, 1})

    def test_points_that_are_hardly_off_the_line(self):
        a, b = (0, 0, 1), (LONG, 1, 1)
        self.assertEqual(side(a, b, (2 * LONG, 2, 1)), 0)
        self.assertEqual(side(a, b, (2 * LONG + 1, 2, 1)), -1)
        self.assertEqual(side(a, b, (2 * LONG - 1, 2, 1)), 1)


class Crossings(unittest.TestCase):
    def test_two_lines(self):
        a, b, c, d = pts((0, 0), (2, 2), (0, 2), (2, 0))
        for ends in ((a, b, c, d), (b, a, c, d), (a, b, d, c), (c, d, a, b)):
            self.assertEqual(crossing(*ends), (1, 1, 1))
        self.assertEqual(crossing(*pts((0, 0), (1, 0), (0, 1), (3, -1))), (3, 0, 2))

    def test_outside_of_both_stretches(self):
        self.assertEqual(crossing(*pts((0, 0), (1, 1), (10, 0), (9, 1))), (5, 5, 1))
        self.assertEqual(crossing(*pts((1, 0), (2, 0), (0, 1), (0, 2))), (0, 0, 1))

    def test_a_common_end(self):
        self.assertEqual(crossing(*pts((1, 1), (3, 4), (1, 1), (0, 7))), (1, 1, 1))
        self.assertEqual(crossing(*pts((1, 1), (3, 4), (0, 7), (3, 4))), (3, 4, 1))

    def test_parallel_lines(self):
        self.assertIsNone(crossing(*pts((0, 0), (2, 1), (0, 1), (2, 2))))
        self.assertIsNone(crossing(*pts((0, 0), (2, 1), (2, 2), (0, 1))))
        self.assertIsNone(crossing(*pts((0, 0), (0, 1), (1, 5), (1, 9))))

    def test_one_and_the_same_line(self):
        self.assertIsNone(crossing(*pts((0, 0), (2, 1), (4, 2), (6, 3))))
        self.assertIsNone(crossing(*pts((0, 0), (2, 1), (2, 1), (0, 0))))
        self.assertIsNone(crossing(*pts((0, 0), (2, 1), (0, 0), (2, 1))))

    def test_many(self):
        source = seeded(5)
        for _ in range(400):
            a, b, c, d = [random_point(source) for _ in range(4)]
            if a == b or c == d:
                continue
            common = crossing(a, b, c, d)
            (ax, ay), (bx, by), (cx, cy), (dx, dy) = map(xy, (a, b, c, d))
            if (bx - ax) * (dy - cy) == (by - ay) * (dx - cx):
                self.assertIsNone(common)
            else:
                self.assertTrue(in_one_form(common))
                self.assertEqual(turn(xy(a), xy(b), xy(common)), 0)
                self.assertEqual(turn(xy(c), xy(d), xy(common)), 0)

    def test_long_integers(self):
        self.assertEqual(crossing((0, 0, 1), (LONG, LONG, 1), (0, LONG, 1), (LONG, 0, 1)),
                         (LONG, LONG, 2))
