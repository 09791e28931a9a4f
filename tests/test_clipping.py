import unittest
from fractions import Fraction

from cutandlaid.clipping import halves, meet, rest
from tests.helpers import (area_of, at, clipped, common_area, common_areas, hull, is_right_figure,
                           pts, random_polygon, rect, seeded, well_written, xy)

SQUARE = rect(0, 0, 2, 2)
TRIANGLE = pts((0, 0), (3, 0), (0, 3))


class Halves(unittest.TestCase):
    def both_ways(self, polygon, a, b, left, right):
        """The halves are these, also for the line the other way."""
        self.assertEqual(halves(polygon, a, b), (left, right))
        self.assertEqual(halves(polygon, b, a), (right, left))
        self.assertIs(type(halves(polygon, a, b)), tuple)

    def test_a_line_that_cuts(self):
        self.both_ways(SQUARE, *pts((1, 5), (1, -5)), rect(1, 0, 2, 2), rect(0, 0, 1, 2))
        self.both_ways(SQUARE, *pts((7, Fraction(1, 2)), (8, Fraction(1, 2))),
                       rect(0, Fraction(1, 2), 2, 2), rect(0, 0, 2, Fraction(1, 2)))
        self.both_ways(SQUARE, *pts((0, 1), (1, 0)),
                       pts((0, 1), (1, 0), (2, 0), (2, 2), (0, 2)), pts((0, 0), (1, 0), (0, 1)))
        self.both_ways(TRIANGLE, *pts((1, 0), (1, 1)),
                       pts((0, 0), (1, 0), (1, 2), (0, 3)), pts((1, 0), (3, 0), (1, 2)))

    def test_along_an_edge(self):
        self.both_ways(SQUARE, *pts((0, 0), (2, 0)), SQUARE, None)
        self.both_ways(SQUARE, *pts((5, 2), (7, 2)), None, SQUARE)
        self.both_ways(SQUARE, *pts((2, 9), (2, 10)), SQUARE, None)
        self.both_ways(TRIANGLE, *pts((3, 0), (0, 3)), TRIANGLE, None)
        self.both_ways(TRIANGLE, *pts((-1, 4), (4, -1)), None, TRIANGLE)

    def test_through_one_corner_past_the_polygon(self):
        self.both_ways(SQUARE, *pts((-1, 1), (1, -1)), SQUARE, None)
        self.both_ways(SQUARE, *pts((2, 2), (3, 1)), None, SQUARE)
        self.both_ways(TRIANGLE, *pts((3, 0), (3, 1)), TRIANGLE, None)

    def test_through_one_corner_and_an_edge(self):
        self.both_ways(SQUARE, *pts((0, 0), (2, 1)),
                       pts((0, 0), (2, 1), (2, 2), (0, 2)), pts((0, 0), (2, 0), (2, 1)))
        self.both_ways(TRIANGLE, *pts((0, 0), (1, 1)),
                       pts((0, 0), (Fraction(3, 2), Fraction(3, 2)), (0, 3)),
                       pts((0, 0), (3, 0), (Fraction(3, 2), Fraction(3, 2))))

    def test_through_two_corners(self):
        self.both_ways(SQUARE, *pts((0, 0), (1, 1)),
                       pts((0, 0), (2, 2), (0, 2)), pts((0, 0), (2, 0), (2, 2)))
        self.both_ways(SQUARE, *pts((0, 2), (5, -3)),
                       pts((0, 2), (2, 0), (2, 2)), pts((0, 0), (2, 0), (0, 2)))

    def test_past_the_polygon(self):
        self.both_ways(SQUARE, *pts((-1, 0), (-1, 1)), None, SQUARE)
        self.both_ways(SQUARE, *pts((0, 5), (5, 0)), None, SQUARE)
        self.both_ways(SQUARE, *pts((0, -1), (1, -1)), SQUARE, None)

    def test_many(self):
        source = seeded(21)
        for _ in range(200):
            polygon = random_polygon(source, spread_of=4, finest=3)
            a, b = [at(source.randrange(-5, 6), source.randrange(-5, 6)) for _ in range(2)]
            if a == b:
                continue
            pair = halves(polygon, a, b)
            places = [xy(p) for p in polygon]
            for part, ends in zip(pair, ((a, b), (b, a))):
                expected = hull(clipped(places, xy(ends[0]), xy(ends[1])))
                if len(expected) < 3:
                    self.assertIsNone(part)
                else:
                    self.assertEqual(part, pts(*expected))
            self.assertEqual(halves(polygon, b, a), pair[::-1])


class MeetAndRest(unittest.TestCase):
    def judge(self, first, second):
        """Meet and rest of two polygons are right by the second way to reckon."""
        common, pieces = meet(first, second), rest(first, second)
        shared = common_area(first, second)
        if shared == 0:
            self.assertIsNone(common)
        else:
            self.assertTrue(well_written(common))
            self.assertEqual(area_of([common]), shared)
            self.assertEqual(common_area(common, first), shared)
            self.assertEqual(common_area(common, second), shared)
        self.assertTrue(is_right_figure(pieces))
        self.assertEqual(area_of(pieces), area_of([first]) - shared)
        self.assertEqual(common_areas(pieces, [first]), area_of(pieces))
        self.assertEqual(common_areas(pieces, [second]), 0)
        return common, pieces

    def test_crossing(self):
        common, pieces = self.judge(SQUARE, rect(1, 1, 3, 3))
        self.assertEqual(common, rect(1, 1, 2, 2))
        self.assertEqual(area_of(pieces), 3)
        common, pieces = self.judge(rect(0, 1, 3, 2), rect(1, 0, 2, 3))
        self.assertEqual(common, rect(1, 1, 2, 2))
        self.assertEqual(sorted(pieces), [rect(0, 1, 1, 2), rect(2, 1, 3, 2)])
        star = pts((-1, 1), (1, -1), (3, 1), (1, 3))
        self.assertEqual(self.judge(rect(0, 0, 2, 2), star)[0], SQUARE)
        self.judge(star, rect(0, 0, 2, 2))

    def test_one_within_the_other(self):
        inner, outer = rect(1, 1, 2, 2), rect(0, 0, 3, 3)
        common, pieces = self.judge(inner, outer)
        self.assertEqual((common, pieces), (inner, []))
        common, pieces = self.judge(outer, inner)
        self.assertEqual(common, inner)
        self.assertEqual(area_of(pieces), 8)

    def test_one_within_the_other_at_its_border(self):
        corner = pts((0, 0), (1, 0), (0, 1))
        self.assertEqual(self.judge(corner, SQUARE), (corner, []))
        common, pieces = self.judge(SQUARE, corner)
        self.assertEqual(common, corner)
        self.assertEqual(pieces, [pts((0, 1), (1, 0), (2, 0), (2, 2), (0, 2))])

    def test_alike(self):
        for polygon in (SQUARE, TRIANGLE):
            self.assertEqual(self.judge(polygon, polygon), (polygon, []))

    def test_touching_in_an_edge(self):
        for other in (rect(2, 0, 4, 2), rect(2, 1, 3, 5), rect(0, 2, 1, 3), rect(-1, -5, 0, 9)):
            self.assertEqual(self.judge(SQUARE, other), (None, [SQUARE]))
            self.assertEqual(self.judge(other, SQUARE), (None, [other]))

    def test_touching_in_a_corner(self):
        for other in (rect(2, 2, 3, 3), rect(-1, -1, 0, 0), pts((2, 1), (3, 0), (3, 2)),
                      pts((1, 3), (2, 2), (4, 1), (4, 4))):
            self.assertEqual(self.judge(SQUARE, other), (None, [SQUARE]))
            self.assertEqual(self.judge(other, SQUARE), (None, [other]))

    def test_apart(self):
        for other in (rect(3, 0, 4, 2), rect(9, 9, 10, 10), pts((-1, -5), (9, -3), (9, -2)),
                      pts((2, 4), (4, 2), (4, 4))):
            self.assertEqual(self.judge(SQUARE, other), (None, [SQUARE]))
            self.assertEqual(self.judge(other, SQUARE), (None, [other]))

    def test_the_meet_is_the_same_either_way(self):
        source = seeded(22)
        for _ in range(150):
            first, second = random_polygon(source, 4), random_polygon(source, 4)
            self.assertEqual(meet(first, second), meet(second, first))

    def test_many(self):
        source = seeded(23)
        for _ in range(150):
            self.judge(random_polygon(source, 3, finest=2), random_polygon(source, 3, finest=2))

    def test_the_lists_are_new(self):
        for other in (rect(1, 1, 3, 3), rect(5, 5, 6, 6), SQUARE):
            pieces = rest(SQUARE, other)
            before = list(pieces)
            pieces.append("more")
            self.assertEqual(rest(SQUARE, other), before)
