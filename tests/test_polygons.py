import unittest
from fractions import Fraction

from cutandlaid.polygons import area, is_polygon, place, polygon_of
from tests.helpers import (area_of, at, place_of, pts, random_polygon, rect, seeded,
                           twelve_corners, well_written, xy)

SQUARE = rect(0, 0, 2, 2)
TRIANGLE = pts((0, 0), (3, 0), (0, 3))
HEXAGON = pts((-2, 0), (-1, -2), (1, -2), (2, 0), (1, 2), (-1, 2))
SLIM = pts((0, 0), (100000, 1), (100000, Fraction(10 ** 12 + 1, 10 ** 12)))
SAMPLES = [SQUARE, TRIANGLE, HEXAGON, SLIM, twelve_corners(5, 7, 10 ** 12 - 11)]


def turned(corners, k):
    return corners[k:] + corners[:k]


class IsPolygon(unittest.TestCase):
    def test_polygons(self):
        for polygon in SAMPLES:
            self.assertIs(is_polygon(polygon), True)
        source = seeded(11)
        for _ in range(100):
            self.assertIs(is_polygon(random_polygon(source)), True)

    def test_another_corner_first(self):
        for polygon in SAMPLES:
            for k in range(1, len(polygon)):
                self.assertIs(is_polygon(turned(polygon, k)), False)

    def test_of_two_leftmost_corners_the_lower_one_is_first(self):
        self.assertIs(is_polygon(pts((0, 0), (2, 0), (2, 2), (0, 2))), True)
        self.assertIs(is_polygon(pts((0, 2), (0, 0), (2, 0), (2, 2))), False)

    def test_the_other_way_round(self):
        for polygon in SAMPLES:
            for k in range(len(polygon)):
                self.assertIs(is_polygon(turned(polygon[::-1], k)), False)

    def test_doubled_corners(self):
        for polygon in SAMPLES:
            for k in range(len(polygon)):
                self.assertIs(is_polygon(polygon[:k] + polygon[k:k + 1] + polygon[k:]), False)

    def test_closed_by_the_first_corner(self):
        for polygon in SAMPLES:
            self.assertIs(is_polygon(polygon + polygon[:1]), False)

    def test_a_point_on_an_edge(self):
        for polygon in SAMPLES:
            for k in range(len(polygon)):
                (x, y), (u, v) = xy(polygon[k - 1]), xy(polygon[k])
                third = at(x + (u - x) / 3, y + (v - y) / 3)
                self.assertIs(is_polygon(polygon[:k] + (third,) + polygon[k:]), False)

    def test_a_point_within(self):
        for polygon in SAMPLES:
            middle = at(sum(xy(p)[0] for p in polygon) / len(polygon),
                        sum(xy(p)[1] for p in polygon) / len(polygon))
            for k in range(len(polygon) + 1):
                self.assertIs(is_polygon(polygon[:k] + (middle,) + polygon[k:]), False)

    def test_going_round_twice(self):
        for polygon in SAMPLES:
            self.assertIs(is_polygon(polygon + polygon), False)
            self.assertIs(is_polygon(polygon * 3), False)

    def test_twice_round_with_other_corners(self):
        self.assertIs(is_polygon(pts((0, 0), (9, 0), (9, 9), (0, 9), (1, 1), (8, 1), (8, 8), (1, 8))),
                      False)

    def test_a_star_that_goes_round_twice(self):
        ring = pts((-3, 1), (-2, -3), (2, -3), (3, 1), (0, 4))
        self.assertIs(is_polygon(ring), True)
        star = (ring[0], ring[2], ring[4], ring[1], ring[3])
        for k in range(5):
            self.assertIs(is_polygon(turned(star, k)), False)
            self.assertIs(is_polygon(turned(star[::-1], k)), False)

    def test_fewer_than_three_points(self):
        for value in ((), pts((0, 0)), pts((0, 0), (1, 0))):
            self.assertIs(is_polygon(value), False)

    def test_points_on_one_line(self):
        self.assertIs(is_polygon(pts((0, 0), (1, 1), (2, 2))), False)
        self.assertIs(is_polygon(pts((0, 0), (2, 2), (1, 1))), False)
        self.assertIs(is_polygon(pts((0, 0), (1, 0), (2, 0), (3, 0))), False)
        self.assertIs(is_polygon(pts((0, 0), (0, 0), (0, 0))), False)

    def test_corners_that_bend_inwards_or_cross(self):
        self.assertIs(is_polygon(pts((0, 0), (4, 0), (1, 1), (0, 4))), False)
        self.assertIs(is_polygon(pts((0, 0), (2, 2), (2, 0), (0, 2))), False)


class PolygonOf(unittest.TestCase):
    def test_any_turn_and_either_way(self):
        for polygon in SAMPLES:
            for k in range(len(polygon)):
                round_trip = list(turned(polygon, k))
                self.assertEqual(polygon_of(round_trip), polygon)
                self.assertEqual(polygon_of(round_trip[::-1]), polygon)

    def test_doubled_points(self):
        for polygon in SAMPLES:
            doubled = [p for p in polygon for _ in range(3)]
            for k in range(len(doubled)):
                self.assertEqual(polygon_of(turned(doubled, k)), polygon)
                self.assertEqual(polygon_of(turned(doubled, k)[::-1]), polygon)

    def test_the_last_point_like_the_first_one(self):
        for polygon in SAMPLES:
            self.assertEqual(polygon_of(list(polygon) + [polygon[0]]), polygon)
            self.assertEqual(polygon_of([polygon[0]] + list(polygon) + [polygon[0]] * 2), polygon)
            self.assertEqual(polygon_of([polygon[0]] + list(polygon[::-1])), polygon)

    def test_points_on_edges(self):
        for polygon in SAMPLES:
            places = [xy(p) for p in polygon]
            row = []
            for (x, y), (u, v) in zip(places, places[1:] + places[:1]):
                row += [at(x, y), at(x + (u - x) / 3, y + (v - y) / 3), at((x + u) / 2, (y + v) / 2)]
            for k in range(len(row)):
                self.assertEqual(polygon_of(turned(row, k)), polygon)
                self.assertEqual(polygon_of(turned(row, k)[::-1]), polygon)
            doubled = [p for p in row for _ in range(2)]
            self.assertEqual(polygon_of(turned(doubled, 1)), polygon)

    def test_points_that_all_lie_on_one_line(self):
        a, b, c, d = pts((0, 0), (1, 1), (2, 2), (3, 3))
        for points in ([a, b, c, d], [a, c, d, b], [a, b], [a], [a, a, a], [a, b, a], [a, b, c, b],
                       [a, a, c, c, a], []):
            self.assertIsNone(polygon_of(points))

    def test_many(self):
        source = seeded(12)
        for _ in range(100):
            polygon = random_polygon(source)
            k = source.randrange(len(polygon))
            self.assertEqual(polygon_of(list(turned(polygon, k))), polygon)
            self.assertTrue(well_written(polygon_of(list(turned(polygon, k)[::-1]))))

    def test_the_points_are_not_modified(self):
        points = list(SQUARE[::-1]) + [SQUARE[-1]]
        before = list(points)
        polygon_of(points)
        self.assertEqual(points, before)


class Area(unittest.TestCase):
    def test_known_areas(self):
        self.assertEqual(area(SQUARE), (4, 1))
        self.assertEqual(area(TRIANGLE), (9, 2))
        self.assertEqual(area(HEXAGON), (12, 1))
        self.assertEqual(area(rect(Fraction(1, 2), Fraction(1, 3), 1, 1)), (1, 3))
        self.assertEqual(area(rect(-5, -5, -4, -4)), (1, 1))

    def test_many(self):
        source = seeded(13)
        for polygon in SAMPLES + [random_polygon(source) for _ in range(100)]:
            value = area(polygon)
            self.assertEqual(Fraction(*value), area_of([polygon]))
            self.assertEqual((Fraction(*value).numerator, Fraction(*value).denominator), value)


class Place(unittest.TestCase):
    def test_inner_points(self):
        self.assertEqual(place(SQUARE, (1, 1, 1)), 1)
        self.assertEqual(place(SQUARE, (1, 1, 10 ** 30)), 1)
        self.assertEqual(place(TRIANGLE, (1, 1, 1)), 1)

    def test_points_on_edges_and_corners(self):
        for polygon in SAMPLES:
            for k in range(len(polygon)):
                (x, y), (u, v) = xy(polygon[k - 1]), xy(polygon[k])
                self.assertEqual(place(polygon, polygon[k]), 0)
                self.assertEqual(place(polygon, at(x + (u - x) / 7, y + (v - y) / 7)), 0)

    def test_points_on_the_line_of_an_edge_beyond_it(self):
        for polygon in SAMPLES:
            for k in range(len(polygon)):
                (x, y), (u, v) = xy(polygon[k - 1]), xy(polygon[k])
                self.assertEqual(place(polygon, at(2 * u - x, 2 * v - y)), -1)
                self.assertEqual(place(polygon, at(2 * x - u, 2 * y - v)), -1)

    def test_points_outside(self):
        for p in pts((3, 1), (-1, 1), (1, -1), (1, 3), (3, 3), (-1, -1), (50, 50)):
            self.assertEqual(place(SQUARE, p), -1)
        self.assertEqual(place(TRIANGLE, (2, 2, 1)), -1)
        self.assertEqual(place(SQUARE, (-1, 10 ** 30, 10 ** 30)), -1)

    def test_many(self):
        source = seeded(14)
        seen = set()
        for _ in range(60):
            polygon = random_polygon(source, spread_of=3, finest=2)
            for _ in range(30):
                x, y = Fraction(source.randrange(-7, 8), 2), Fraction(source.randrange(-7, 8), 2)
                expected = place_of(polygon, x, y)
                seen.add(expected)
                self.assertEqual(place(polygon, at(x, y)), expected)
        self.assertEqual(seen, {-1, 0, 1})
