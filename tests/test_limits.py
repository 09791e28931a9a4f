"""Point 28: figures of the greatest size that may be passed, in exact numbers."""

import unittest
from fractions import Fraction

from cutandlaid.clipping import halves, meet, rest
from cutandlaid.figures import (cover_same, figure_area, is_figure, meet_figures, rest_figures,
                                unite_figures)
from cutandlaid.loops import odd_figure
from cutandlaid.polygons import area, is_polygon, place, polygon_of
from tests.helpers import (area_of, common_area, is_right_figure, pts, rect, seeded, twelve_corners,
                           well_written)

FINE = 10 ** 6 + 3
FINEST = 10 ** 12 - 11


def board(source, across, w, shift):
    """Polygons with twelve corners in rows and columns, each put off a little from its place."""
    figure = []
    for k in range(across * across):
        x = (k % across * 60 + shift) * w + source.randrange(w)
        y = (k // across * 60 + shift) * w + source.randrange(w)
        figure.append(twelve_corners(x, y, w, size=w - source.randrange(1, 99)))
    return figure


class TwelveCorners(unittest.TestCase):
    def test_single_polygons(self):
        for w in (FINE, FINEST, 10 ** 12):
            first = twelve_corners(7, 9, w, size=w)
            second = twelve_corners(20 * w + 1, 10 * w + 7, w, size=w - 2)
            for polygon in (first, second):
                self.assertEqual(len(polygon), 12)
                self.assertGreaterEqual(max(p[2] for p in polygon), 10 ** 6)
                self.assertTrue(is_polygon(polygon))
                self.assertEqual(polygon_of(list(polygon[5:] + polygon[:5])[::-1]), polygon)
                self.assertEqual(Fraction(*area(polygon)), area_of([polygon]))
                self.assertEqual(place(polygon, polygon[7]), 0)
            common, pieces = meet(first, second), rest(first, second)
            self.assertTrue(well_written(common))
            self.assertEqual(area_of([common]), common_area(first, second))
            self.assertTrue(is_right_figure(pieces))
            self.assertEqual(area_of(pieces + [common]), area_of([first]))
            left, right = halves(first, second[0], second[5])
            self.assertTrue(well_written(left) and well_written(right))
            self.assertEqual(area_of([left, right]), area_of([first]))

    def test_different_denominators_in_one_polygon(self):
        corners = [(Fraction(x * 10 ** 5 * (10 ** 6 + k), 10 ** 6 + 3 * k), Fraction(y * 10 ** 5, 1))
                   for k, (x, y) in enumerate([(-1, -1), (1, -1), (1, 1), (-1, 1)])]
        first = polygon_of(list(pts(*corners)))
        second = rect(0, 0, Fraction(10 ** 17 - 1, 10 ** 12), 10 ** 5)
        common, pieces = meet(first, second), rest(first, second)
        self.assertEqual(area_of([common]), common_area(first, second))
        self.assertEqual(area_of(pieces + [common]), area_of([first]))
        self.assertTrue(is_right_figure(pieces + [common]))


class ManyPolygons(unittest.TestCase):
    def test_figures_of_many_polygons_with_twelve_corners(self):
        source = seeded(51)
        first, second = board(source, 14, FINE, 0), board(source, 14, FINEST, 31)
        self.assertTrue(is_figure(first) and is_figure(second))
        common, left = meet_figures(first, second), rest_figures(first, second)
        self.assertTrue(is_figure(common + left))
        self.assertTrue(cover_same(common + left, first))
        self.assertFalse(cover_same(common + left[1:], first))
        self.assertTrue(all(is_polygon(polygon) for polygon in common + left))
        whole = unite_figures(first, second)
        self.assertTrue(is_figure(whole))
        self.assertTrue(cover_same(whole, left + second))
        self.assertEqual(Fraction(*figure_area(common)), area_of(common))

    def test_one_great_polygon_without_many(self):
        great = [rect(-100000, -100000, 100000, 100000)]
        holes = board(seeded(52), 14, FINE, 5)
        left = rest_figures(great, holes)
        self.assertTrue(is_figure(left + holes))
        self.assertTrue(cover_same(left + holes, great))

    def test_strips_across_strips(self):
        upright = [rect(Fraction(k, 7), 0, Fraction(10 * k + 9, 70), 30) for k in range(200)]
        level = [rect(0, Fraction(k, 7), 30, Fraction(10 * k + 9, 70)) for k in range(200)]
        common, left = meet_figures(upright, level), rest_figures(upright, level)
        self.assertEqual(len(common), 40000)
        self.assertTrue(cover_same(common + left, upright))

    def test_a_comb_of_forty_corners(self):
        places = [(k, (k % 2) * 90000 + Fraction(k, FINEST)) for k in range(39)] + [(19, -100000)]
        figure = odd_figure([list(pts(*places))])
        self.assertTrue(is_figure(figure))
        turns = sum(a[0] * b[1] - a[1] * b[0] for a, b in zip(places, places[1:] + places[:1]))
        self.assertEqual(Fraction(*figure_area(figure)), abs(turns) / 2)
