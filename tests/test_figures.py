import copy
import unittest
from fractions import Fraction

from cutandlaid.figures import (bounds, cover_same, figure_area, holds, is_figure, meet_figures,
                                rest_figures, unite_figures)
from tests.helpers import (area_of, at, common_areas, is_right_figure, place_of, pts, random_figure,
                           rect, seeded, xy)

HALF = Fraction(1, 2)
SQUARE = [rect(0, 0, 2, 2)]
# The same square, told by other polygons.
UPRIGHT = [rect(0, 0, 1, 2), rect(1, 0, 2, 2)]
LEVEL = [rect(0, HALF, 2, 2), rect(0, 0, 2, HALF)]
ASLANT = [pts((0, 0), (2, 0), (2, 2)), pts((0, 0), (2, 2), (0, 2))]
FOURTHS = [pts((0, 0), (2, 0), (1, 1)), pts((1, 1), (2, 0), (2, 2)),
           pts((0, 2), (1, 1), (2, 2)), pts((0, 0), (1, 1), (0, 2))]
SQUARES = [SQUARE, UPRIGHT, LEVEL, ASLANT, FOURTHS]
RING = [rect(0, 0, 3, 1), rect(0, 2, 3, 3), rect(0, 1, 1, 2), rect(2, 1, 3, 2)]
HOLE = [rect(1, 1, 2, 2)]
FAR = [rect(50, 50, 51, 51)]
FIGURES = SQUARES + [[], RING, HOLE, FAR, RING + HOLE, [rect(-1, HALF, 4, 1)],
                     [pts((-1, 1), (1, -1), (3, 1), (1, 3)), rect(2, 2, 5, 5)]]


class Operations(unittest.TestCase):
    def judge(self, first, second):
        """Meet, rest and union of two figures are right by the second way to reckon."""
        shared = common_areas(first, second)
        common = meet_figures(first, second)
        self.assertTrue(is_right_figure(common))
        self.assertEqual(area_of(common), shared)
        self.assertEqual(common_areas(common, first), shared)
        self.assertEqual(common_areas(common, second), shared)
        left = rest_figures(first, second)
        self.assertTrue(is_right_figure(left))
        self.assertEqual(area_of(left), area_of(first) - shared)
        self.assertEqual(common_areas(left, first), area_of(left))
        self.assertEqual(common_areas(left, second), 0)
        whole = unite_figures(first, second)
        self.assertTrue(is_right_figure(whole))
        self.assertEqual(area_of(whole), area_of(first) + area_of(second) - shared)
        self.assertEqual(common_areas(whole, first), area_of(first))
        self.assertEqual(common_areas(whole, second), area_of(second))

    def test_all_pairs(self):
        for first in FIGURES:
            for second in FIGURES:
                self.judge(first, second)

    def test_many(self):
        source = seeded(31)
        for _ in range(25):
            self.judge(random_figure(source), random_figure(source))
            self.judge(random_figure(source, 6), random_figure(source, 2))

    def test_empty_figures(self):
        for figure in FIGURES:
            self.assertEqual(meet_figures(figure, []), [])
            self.assertEqual(meet_figures([], figure), [])
            self.assertEqual(rest_figures([], figure), [])
            self.assertTrue(cover_same(rest_figures(figure, []), figure))
            self.assertTrue(cover_same(unite_figures(figure, []), figure))
            self.assertTrue(cover_same(unite_figures([], figure), figure))

    def test_one_figure_told_by_different_polygons(self):
        for first in SQUARES:
            for second in SQUARES:
                self.assertEqual(rest_figures(first, second), [])
                self.assertTrue(cover_same(meet_figures(first, second), SQUARE))
                self.assertTrue(cover_same(unite_figures(first, second), SQUARE))

    def test_a_ring_and_its_hole(self):
        self.assertEqual(meet_figures(RING, HOLE), [])
        self.assertTrue(cover_same(rest_figures([rect(0, 0, 3, 3)], HOLE), RING))
        self.assertTrue(cover_same(rest_figures([rect(0, 0, 3, 3)], RING), HOLE))
        self.assertTrue(cover_same(unite_figures(RING, HOLE), [rect(0, 0, 3, 3)]))

    def test_a_polygon_without_many_others(self):
        # The others stand in no order along the polygon.
        holes = [rect(k % 50, 0, k % 50 + HALF, 1) for k in range(0, 50 * 21, 21)]
        left = rest_figures([rect(0, -1, 50, 2)], holes)
        self.assertTrue(is_figure(left))
        self.assertEqual(figure_area(left), (125, 1))
        self.assertTrue(cover_same(left + holes, [rect(0, -1, 50, 2)]))
        self.assertLess(len(left), 200)


class CoverSame(unittest.TestCase):
    def test_the_same(self):
        for first in SQUARES:
            for second in SQUARES:
                self.assertIs(cover_same(first, second), True)
        self.assertIs(cover_same([], []), True)
        self.assertIs(cover_same(RING, RING[::-1]), True)
        self.assertIs(cover_same(RING + HOLE, [rect(0, 0, 3, 3)]), True)

    def test_not_the_same(self):
        different = [SQUARE, [], RING, HOLE, FAR, RING + HOLE, SQUARE + FAR, [rect(1, 0, 3, 2)]]
        for k, first in enumerate(different):
            for j, second in enumerate(different):
                self.assertIs(cover_same(first, second), k == j)

    def test_different_ones_of_equal_area(self):
        self.assertIs(cover_same(SQUARE, [rect(0, 0, 4, 1)]), False)
        self.assertIs(cover_same(HOLE, FAR), False)

    def test_a_slight_difference(self):
        sliver = pts((0, 0), (2, 0), (1, Fraction(1, 10 ** 12)))
        cut = rest_figures(SQUARE, [sliver])
        self.assertIs(cover_same(SQUARE, cut), False)
        self.assertIs(cover_same(cut, SQUARE), False)
        self.assertIs(cover_same(cut + [sliver], SQUARE), True)

    def test_many(self):
        source = seeded(32)
        for _ in range(20):
            first, second = random_figure(source), random_figure(source)
            parts = meet_figures(first, second) + rest_figures(first, second)
            self.assertIs(cover_same(parts, first), True)
            self.assertIs(cover_same(first, parts), True)
            self.assertIs(cover_same(parts[1:], first), False)
            self.assertIs(cover_same(first, parts[1:]), False)


class AreaHoldsBounds(unittest.TestCase):
    def test_figure_area(self):
        self.assertEqual(figure_area([]), (0, 1))
        self.assertEqual(figure_area(RING), (8, 1))
        self.assertEqual(figure_area([rect(0, 0, HALF, HALF), pts((5, 5), (6, 5), (5, 6))]), (3, 4))
        self.assertEqual(figure_area([rect(0, 0, 1, Fraction(1, k)) for k in (2, 3, 6)]), (1, 1))
        source = seeded(33)
        for _ in range(20):
            figure = random_figure(source, 5)
            self.assertEqual(Fraction(*figure_area(figure)), area_of(figure))

    def test_figure_area_where_polygons_meet(self):
        self.assertEqual(figure_area(SQUARE + SQUARE), (8, 1))

    def test_holds(self):
        for p in pts((0, 0), (1, 0), (HALF, HALF), (1, 1), (HALF, 1), (3, 3), (Fraction(5, 2), 2)):
            self.assertIs(holds(RING, p), True)
        for p in pts((HALF * 3, HALF * 3), (-1, 0), (3, 4), (Fraction(301, 100), 1), (0, -1)):
            self.assertIs(holds(RING, p), False)
            self.assertIs(holds([], p), False)

    def test_holds_inner_edges_and_corners(self):
        for figure in SQUARES:
            for p in pts((1, 1), (2, 2), (0, 1), (1, HALF), (HALF, HALF), (2, 0)):
                self.assertIs(holds(figure, p), True)

    def test_holds_many(self):
        source = seeded(34)
        for _ in range(20):
            figure = random_figure(source)
            for _ in range(40):
                x, y = source.randrange(-5, 22), Fraction(source.randrange(-10, 44), 2)
                expected = any(place_of(polygon, x, y) >= 0 for polygon in figure)
                self.assertIs(holds(figure, at(x, y)), expected)

    def test_bounds(self):
        self.assertIsNone(bounds([]))
        self.assertEqual(bounds(SQUARE), (((0, 1), (0, 1)), ((2, 1), (2, 1))))
        self.assertEqual(bounds([pts((-1, HALF), (3, Fraction(-1, 3)), (2, 5))]),
                         (((-1, 1), (-1, 3)), ((3, 1), (5, 1))))
        self.assertEqual(bounds(RING + FAR), (((0, 1), (0, 1)), ((51, 1), (51, 1))))

    def test_bounds_many(self):
        source = seeded(35)
        for _ in range(20):
            figure = random_figure(source)
            xs, ys = zip(*[xy(p) for polygon in figure for p in polygon])
            ends = [[(n.numerator, n.denominator) for n in pair]
                    for pair in ((min(xs), min(ys)), (max(xs), max(ys)))]
            self.assertEqual(bounds(figure), (tuple(ends[0]), tuple(ends[1])))


class IsFigure(unittest.TestCase):
    def test_figures(self):
        for figure in FIGURES:
            self.assertIs(is_figure(figure), True)
        self.assertIs(is_figure([rect(0, 0, 1, 1), rect(1, 1, 2, 2), rect(1, 0, 2, 1)]), True)

    def test_polygons_that_meet(self):
        # It reaches into the square by a very small part of its length.
        spike = pts((Fraction(2 * 10 ** 12 - 1, 10 ** 12), 1), (3, 0), (3, 1))
        for polygons in (SQUARE + SQUARE, RING + [rect(0, 0, 3, 3)], RING + [rect(1, 1, 3, 2)],
                         SQUARE + FAR + [rect(1, 1, 3, 3)], [rect(1, 1, 3, 3)] + FAR + SQUARE,
                         SQUARE + [rect(HALF, HALF, 1, 1)], [rect(HALF, HALF, 1, 1)] + SQUARE,
                         SQUARE + [spike]):
            self.assertIs(is_figure(polygons), False)
            self.assertIs(is_figure(polygons[::-1]), False)

    def test_aslant_neighbours(self):
        first, second = pts((0, 0), (9, 9), (0, 9)), pts((1, 0), (10, 0), (10, 9))
        self.assertIs(is_figure([first, second]), True)
        self.assertIs(is_figure([first, pts((0, 0), (9, 0), (9, 9))]), True)
        self.assertIs(is_figure([first, pts((0, 0), (9, 0), (8, 9))]), False)

    def test_many(self):
        source = seeded(36)
        for _ in range(30):
            figure = random_figure(source, 6)
            self.assertIs(is_figure(figure), True)
            other = random_figure(source, 2)
            self.assertIs(is_figure(figure + other), common_areas(figure, other) == 0)


class NothingIsModified(unittest.TestCase):
    def test_arguments_stay_and_answers_are_new(self):
        first, second = copy.deepcopy(RING), [rect(0, 0, 2, 2), rect(2, 2, 5, 5)]
        before = copy.deepcopy((first, second))
        for operation in (meet_figures, rest_figures, unite_figures):
            for pair in ((first, second), (second, first), (first, []), ([], first), (first, first)):
                answer = operation(*pair)
                self.assertIs(type(answer), list)
                self.assertTrue(all(answer is not figure for figure in pair))
                again = operation(*pair)
                self.assertEqual(answer, again)
                answer.append("more")
                self.assertEqual(operation(*pair), again)
                self.assertEqual((first, second), before)
        for ask in (figure_area, bounds, is_figure):
            ask(first)
        holds(first, (1, 1, 1))
        cover_same(first, second)
        self.assertEqual((first, second), before)
