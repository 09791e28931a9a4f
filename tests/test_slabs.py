import copy
import unittest
from fractions import Fraction

from cutandlaid.slabs import slabs
from tests.helpers import (area_of, clipped, common_areas, hull, is_right_figure, pts, random_figure, rect, seeded,
                           spread, xy)

HALF = Fraction(1, 2)


def number(y):
    y = Fraction(y)
    return y.numerator, y.denominator


def lowest(polygon):
    return min(xy(p)[1] for p in polygon)


class Slabs(unittest.TestCase):
    def expected(self, figure, heights):
        """The parts between neighbouring lines, each cut out of its polygon by itself."""
        lines = sorted({xy(p)[1] for polygon in figure for p in polygon} | {Fraction(*y) for y in heights})
        parts = []
        for polygon in figure:
            for low, high in zip(lines, lines[1:]):
                part = clipped([xy(p) for p in polygon], (0, low), (1, low))
                part = clipped(part, (1, high), (0, high)) if part else []
                if part and spread(part):
                    parts.append(pts(*hull(part)))
        return sorted(parts)

    def judge(self, figure, heights):
        heights = [number(y) for y in heights]
        answer = slabs(figure, heights)
        self.assertIs(type(answer), list)
        self.assertTrue(is_right_figure(answer) if len(answer) < 60 else True)
        self.assertEqual(sorted(answer), self.expected(figure, heights))
        self.assertTrue(all(len(polygon) in (3, 4) for polygon in answer))
        order = [(lowest(polygon), xy(polygon[0])[0]) for polygon in answer]
        self.assertEqual(order, sorted(order))
        self.assertEqual(area_of(answer), area_of(figure))
        if len(answer) < 60:
            self.assertEqual(common_areas(answer, figure), area_of(figure))
        return answer

    def test_by_hand(self):
        self.assertEqual(self.judge([rect(0, 0, 2, 2)], [1]), [rect(0, 0, 2, 1), rect(0, 1, 2, 2)])
        self.assertEqual(self.judge([pts((0, 0), (4, 0), (0, 2))], [1]),
                         [pts((0, 0), (4, 0), (2, 1), (0, 1)), pts((0, 1), (2, 1), (0, 2))])
        self.assertEqual(self.judge([pts((0, 1), (1, 0), (2, 1), (1, 3))], []),
                         [pts((0, 1), (1, 0), (2, 1)), pts((0, 1), (2, 1), (1, 3))])

    def test_no_polygons(self):
        self.assertEqual(slabs([], []), [])
        self.assertEqual(slabs([], [(1, 2), (0, 1)]), [])

    def test_no_heights(self):
        self.assertEqual(self.judge([rect(0, 0, 1, 1)], []), [rect(0, 0, 1, 1)])
        self.assertEqual(self.judge([pts((0, 0), (3, 1), (1, 4))], []),
                         [pts((0, 0), (3, 1), (Fraction(1, 4), 1)), pts((Fraction(1, 4), 1), (3, 1), (1, 4))])

    def test_heights_in_any_order_doubled_and_beyond(self):
        figure = [rect(0, 0, 2, 3), pts((5, 0), (7, 1), (6, 3))]
        row = [HALF, 1, Fraction(3, 2), 2, Fraction(7, 3)]
        once = self.judge(figure, row)
        for heights in (row[::-1], row + row, [2, HALF, Fraction(7, 3), Fraction(3, 2), 1], row + [-5, 9, 0, 3, 10 ** 9],
                        [0, 0, 3] + row):
            self.assertEqual(self.judge(figure, heights), once)
        self.assertEqual(self.judge(figure, [-1, 7, 3, 0]), self.judge(figure, []))

    def test_corners_cut_the_other_polygons(self):
        figure = [rect(0, 0, 1, 2), pts((5, 1), (6, 1), (5, 4))]
        self.assertEqual(self.judge(figure, []), [
            rect(0, 0, 1, 1), rect(0, 1, 1, 2), pts((5, 1), (6, 1), (Fraction(17, 3), 2), (5, 2)),
            pts((5, 2), (Fraction(17, 3), 2), (5, 4))])

    def test_the_order_of_equal_heights(self):
        figure = [rect(5, 0, 6, 1), pts((-10, 0), (-9, 0), (Fraction(-19, 2), 1)), rect(0, 0, 1, 1),
                  pts((2, 1), (3, 0), (4, 1))]
        self.assertEqual(self.judge(figure, []), [figure[1], figure[2], figure[3], figure[0]])
        # By the first corners, not by the lowest ones.
        leaning, upright = pts((0, 1), (10, 0), (11, 1)), pts((5, 0), (6, 0), (5, Fraction(1, 3)))
        self.assertEqual([p[0] for p in self.judge([upright, leaning], [])][:2], [(5, 0, 1), (20, 1, 3)])
        # These have their first corners at the same place.
        self.assertEqual(len(self.judge([pts((0, 0), (2, 0), (2, 1)), pts((0, 0), (2, 1), (0, 1))], [])), 2)

    def test_near_heights(self):
        near = Fraction(1, 10 ** 12)
        self.assertEqual(len(self.judge([rect(0, 0, 1, 1)], [HALF, HALF + near, HALF - near, near])), 5)

    def test_many(self):
        source = seeded(111)
        for many in (1, 2, 4):
            for _ in range(6):
                figure = random_figure(source, many)
                heights = [Fraction(source.randrange(-60, 240), source.randrange(1, 12))
                           for _ in range(source.randrange(5))]
                self.judge(figure, heights)

    def test_arguments_stay_and_answers_are_new(self):
        figure, heights = [rect(0, 0, 1, 1), rect(4, 0, 5, 3)], [(2, 1), (1, 2), (2, 1)]
        before = copy.deepcopy((figure, heights))
        answer, again = slabs(figure, heights), slabs(figure, heights)
        self.assertEqual(answer, again)
        answer.append("more")
        self.assertEqual(slabs(figure, heights), again)
        self.assertEqual((figure, heights), before)
        self.assertIsNot(slabs(figure, []), figure)
