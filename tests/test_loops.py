import copy
import unittest
from fractions import Fraction

from cutandlaid.figures import cover_same, holds
from cutandlaid.loops import odd_figure
from tests.helpers import area_of, at, is_right_figure, pts, rect, seeded, xy


def loop(*places):
    return list(pts(*places))


def box(left, low, right, high):
    return list(rect(left, low, right, high))


def edges_of(loops):
    for row in loops:
        places = [xy(p) for p in row]
        for a, b in zip(places, places[1:] + places[:1]):
            if a[1] != b[1]:
                yield (a, b) if a[1] < b[1] else (b, a)


def across(edge, y):
    (x, low), (u, high) = edge
    return x + (u - x) * (y - low) / (high - low)


def odd_stretches(edges, y):
    """The stretches of the level line at y in which an odd number of edges lie to the left."""
    crossed = sorted(across(edge, y) for edge in edges if edge[0][1] < y < edge[1][1])
    return joined([pair for pair in zip(crossed[::2], crossed[1::2])])


def covered_stretches(polygons, y):
    found = []
    for polygon in polygons:
        crossed = sorted(across(edge, y) for edge in edges_of([polygon])
                         if edge[0][1] < y < edge[1][1])
        if crossed:
            found.append((crossed[0], crossed[-1]))
    return joined(sorted(found))


def joined(stretches):
    """Stretches from left to right, those joined that touch, those of no length left out."""
    row = []
    for left, right in stretches:
        if left == right:
            continue
        if row and row[-1][1] >= left:
            row[-1] = (row[-1][0], max(right, row[-1][1]))
        else:
            row.append((left, right))
    return row


def crossing_heights(edges):
    for k, (a, b) in enumerate(edges):
        for c, d in edges[:k]:
            slope = (b[0] - a[0]) / (b[1] - a[1])
            other = (d[0] - c[0]) / (d[1] - c[1])
            if slope != other:
                yield (c[0] - a[0] + slope * a[1] - other * c[1]) / (slope - other)


class OddFigure(unittest.TestCase):
    def judge(self, loops):
        """The figure covers the odd points and no others: between neighbouring heights of
        corners and crossings all stretches grow evenly, so two levels in each tell all."""
        figure = odd_figure(loops)
        self.assertTrue(is_right_figure(figure))
        edges = list(edges_of(loops))
        heights = {y for edge in edges for _, y in edge} | set(crossing_heights(edges))
        heights = sorted(heights | {xy(p)[1] for polygon in figure for p in polygon})
        for low, high in zip(heights, heights[1:]):
            for part in (Fraction(1, 3), Fraction(2, 3)):
                y = low + (high - low) * part
                self.assertEqual(covered_stretches(figure, y), odd_stretches(edges, y))
        if not heights:
            self.assertEqual(figure, [])
        return figure

    def test_no_loops(self):
        self.assertEqual(odd_figure([]), [])
        self.assertIs(type(odd_figure([])), list)

    def test_one_loop(self):
        for row in (box(0, 0, 2, 2), box(0, 0, 2, 2)[::-1], loop((0, 0), (3, 1), (1, 4)),
                    loop((0, 0), (4, 0), (1, 1), (0, 4)), loop((0, 0), (2, 1), (4, 0), (2, 5))):
            for k in range(len(row)):
                self.judge([row[k:] + row[:k]])
        self.assertEqual(odd_figure([box(0, 0, 2, 2)]), [rect(0, 0, 2, 2)])
        self.assertTrue(cover_same(odd_figure([loop((0, 0), (4, 0), (1, 1), (0, 4))]),
                                   [pts((0, 0), (4, 0), (1, 1)), pts((0, 0), (1, 1), (0, 4))]))

    def test_either_way_round(self):
        for row in (box(0, 0, 2, 2), loop((0, 0), (4, 0), (1, 1), (0, 4))):
            self.assertTrue(cover_same(odd_figure([row]), odd_figure([row[::-1]])))

    def test_a_hole(self):
        ring = [rect(0, 0, 3, 1), rect(0, 2, 3, 3), rect(0, 1, 1, 2), rect(2, 1, 3, 2)]
        for inner in (box(1, 1, 2, 2), box(1, 1, 2, 2)[::-1]):
            for loops in ([box(0, 0, 3, 3), inner], [inner, box(0, 0, 3, 3)]):
                self.assertTrue(cover_same(self.judge(loops), ring))

    def test_a_loop_in_a_hole(self):
        loops = [box(0, 0, 9, 9), box(1, 1, 8, 8), box(2, 2, 7, 7), loop((3, 3), (6, 4), (4, 6))]
        self.assertEqual(area_of(self.judge(loops)), 81 - 49 + 25 - 4)

    def test_a_hole_that_touches(self):
        self.judge([box(0, 0, 4, 4), loop((0, 0), (2, 1), (1, 2))])
        self.judge([box(0, 0, 4, 4), loop((2, 0), (4, 2), (2, 4), (0, 2))])
        self.judge([box(0, 0, 4, 4), box(0, 0, 1, 1), box(1, 1, 2, 2)])

    def test_loops_that_cross_themselves(self):
        bow = self.judge([loop((0, 0), (2, 2), (2, 0), (0, 2))])
        self.assertTrue(cover_same(bow, [pts((0, 0), (1, 1), (0, 2)), pts((1, 1), (2, 0), (2, 2))]))
        # The middle of this star is gone round twice, so it is not odd.
        ring = [(-3, 1), (-2, -3), (2, -3), (3, 1), (0, 4)]
        star = self.judge([loop(*[ring[k] for k in (0, 2, 4, 1, 3)])])
        self.assertFalse(holds(star, (0, 0, 1)))
        self.judge([loop((0, 0), (5, 0), (5, 3), (2, -2), (4, 4), (-1, 1))])

    def test_loops_that_cross_each_other(self):
        figure = self.judge([box(0, 0, 2, 2), box(1, 1, 3, 3)])
        self.assertEqual(area_of(figure), 6)
        self.judge([box(0, 0, 2, 2), loop((1, -1), (3, 1), (1, 3), (-1, 1))])
        self.judge([loop((0, 0), (6, 1), (0, 2)), loop((1, -1), (2, 5), (3, -1)), box(0, 0, 4, 1)])

    def test_loops_that_stand_side_by_side(self):
        self.assertEqual(area_of(self.judge([box(0, 0, 1, 1), box(5, 0, 6, 7)])), 8)
        self.assertTrue(cover_same(self.judge([box(0, 0, 1, 1), box(1, 0, 2, 1)]), [rect(0, 0, 2, 1)]))
        self.assertTrue(cover_same(self.judge([box(0, 0, 1, 1), box(0, 1, 1, 2)]), [rect(0, 0, 1, 2)]))

    def test_edges_that_are_walked_twice(self):
        a, b, c = pts((0, 0), (3, 1), (5, 5))
        self.assertEqual(self.judge([[a, b, c, b]]), [])
        self.assertEqual(self.judge([[a, b, c], [a, b, c]]), [])
        self.assertEqual(self.judge([[a, b, c], [b, a, c]]), [])
        self.assertEqual(self.judge([[a, b, c, a, b, c]]), [])
        self.assertEqual(self.judge([[a, b, c]] * 3), self.judge([[a, b, c]]))
        # From the square's corner a path leads out and back, and another one inwards and back.
        square = box(0, 0, 2, 2)
        out = square + [square[0], at(-1, -3)]
        self.assertTrue(cover_same(self.judge([out]), [rect(0, 0, 2, 2)]))
        inwards = square + [square[0], at(1, 1)]
        self.assertTrue(cover_same(self.judge([inwards]), [rect(0, 0, 2, 2)]))
        keyhole = loop((0, 0), (5, 0), (5, 5), (0, 5), (0, 0), (1, 1), (1, 2), (2, 2), (2, 1), (1, 1))
        self.assertEqual(area_of(self.judge([keyhole])), 24)

    def test_edges_that_lie_along_each_other(self):
        self.assertEqual(area_of(self.judge([box(0, 0, 2, 2), box(2, 1, 3, 5)])), 8)
        self.assertEqual(area_of(self.judge([box(0, 0, 2, 2), box(0, 1, 1, 3)])), 4)
        self.judge([loop((0, 0), (4, 4), (0, 4)), loop((1, 1), (3, 3), (3, 1))])
        self.judge([loop((0, 0), (4, 4), (0, 4)), loop((1, 1), (6, 6), (6, 1))])
        self.judge([loop((0, 0), (4, 4), (0, 4)), loop((1, 1), (3, 3), (1, 3))])
        self.judge([loop((0, 0), (0, 5), (0, 2), (3, 3)), loop((0, 1), (0, 4), (-2, 2))])

    def test_a_corner_on_the_way_and_loops_without_breadth(self):
        self.assertEqual(self.judge([loop((0, 0), (1, 0), (2, 0), (2, 1), (2, 2), (0, 2))]),
                         [rect(0, 0, 2, 2)])
        self.assertEqual(self.judge([loop((0, 0), (1, 0), (2, 0))]), [])
        self.assertEqual(self.judge([loop((0, 0), (2, 4), (1, 2))]), [])
        self.assertEqual(self.judge([loop((0, 0), (0, 4), (0, 1), (0, 2))]), [])

    def test_crossings_at_corners_and_many_in_one_place(self):
        self.judge([loop((0, 0), (4, 4), (4, 0), (2, 2), (0, 4))])
        self.judge([loop((-2, -2), (2, 2), (2, -2), (-2, 2)), loop((-2, 0), (0, 3), (2, 0), (0, -3)),
                    loop((0, -4), (0, 4), (1, 0)), loop((-4, 1), (4, -1), (4, 2))])

    def test_many(self):
        source = seeded(41)
        for _ in range(60):
            loops = []
            for _ in range(source.randrange(1, 4)):
                row = []
                while len(row) < source.randrange(3, 8) or row[0] == row[-1]:
                    p = at(Fraction(source.randrange(-6, 7), source.randrange(1, 3)),
                           source.randrange(-3, 4))
                    if not row or p != row[-1]:
                        row.append(p)
                loops.append(row)
            self.judge(loops)

    def test_forty_corners(self):
        source = seeded(42)
        row = [at(Fraction(source.randrange(-10 ** 17, 10 ** 17), 10 ** 12),
                  Fraction(source.randrange(-10 ** 17, 10 ** 17), 10 ** 12)) for _ in range(40)]
        edges = list(edges_of([row[:25], row[25:]]))
        figure = odd_figure([row[:25], row[25:]])
        heights = sorted({y for edge in edges for _, y in edge} | set(crossing_heights(edges)))
        total = 0
        for low, high in zip(heights, heights[1:]):
            middle = (low + high) / 2
            stretches = odd_stretches(edges, middle)
            total += (high - low) * sum(right - left for left, right in stretches)
            if high - low > 1000:
                self.assertEqual(covered_stretches(figure, middle), stretches)
        self.assertEqual(area_of(figure), total)

    def test_nothing_is_modified_and_the_list_is_new(self):
        loops = [box(0, 0, 3, 3), box(1, 1, 2, 2)]
        before = copy.deepcopy(loops)
        figure = odd_figure(loops)
        self.assertEqual(loops, before)
        kept = list(figure)
        figure.append("more")
        self.assertEqual(odd_figure(loops), kept)
